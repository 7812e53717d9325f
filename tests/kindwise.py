"""Kinds of webs of few places, found by going through all webs: what reckoned counts are held against."""

import functools
import math

from tests.things import all_turns, all_webs
from websbykind.webs import turned


@functools.cache
def one_of_each_kind(many):
    """One web of each kind of so many places, from none of the forms that the program tells."""
    # Every turn comes of these two, done one behind the other.
    swap = (1, 0) + tuple(range(2, many)) if many > 1 else (0,)
    wheel = tuple(range(1, many)) + (0,)
    seen = set()
    found = []
    for web in all_webs(many):
        if web not in seen:
            found.append(web)
            spread([web], seen, [swap, wheel])
    return found


def spread(waiting, seen, turns):
    """All webs to which the turns lead from those waiting are seen."""
    while waiting:
        web = waiting.pop()
        if web not in seen:
            seen.add(web)
            waiting += [turned(web, turn) for turn in turns]


@functools.cache
def least_turned(web):
    """The least of all webs to which a turn leads the web."""
    return min(turned(web, turn) for turn in all_turns(web[0]))


def by_ties(many, webs):
    """The list, at place k, how many of the webs have k ties, up to all pairs."""
    counted = [0] * (many * (many - 1) // 2 + 1)
    for web in webs:
        counted[len(web[1])] += 1
    return counted


def lengths_of_pairs(kind):
    """How many pairs are in each round of pairs of a turn that has the kind, by the lengths of its rounds alone."""
    lengths = []
    for at, one in enumerate(kind):
        # Within a round pairs are as far apart as they go: half of it is a round half as long.
        lengths += [one] * ((one - 1) // 2) + [one // 2] * (one % 2 == 0)
        for other in kind[:at]:
            lengths += [math.lcm(one, other)] * math.gcd(one, other)
    return lengths


def turns_with(kind):
    """How many turns have a kind: all orders, for each beginning of its rounds and each order of like ones."""
    many = math.factorial(sum(kind))
    for length in set(kind):
        many //= length ** kind.count(length) * math.factorial(kind.count(length))
    return many
