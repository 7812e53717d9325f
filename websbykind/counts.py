"""Told counts at places: what webs have them, and what shows that none has."""

from websbykind.alike import form
from websbykind.errors import NoCounts
from websbykind.forms import MOST_FORMED
from websbykind.kinds import is_falling
from websbykind.webs import MOST_PLACES, must_be_web, pairs_of, tied_places
from websbykind.whole import is_within, must_be_few

MOST_COUNTS = 12


def is_counts(thing):
    """Whether anything is counts."""
    if not isinstance(thing, tuple) or not 1 <= len(thing) <= MOST_COUNTS:
        return False
    # Only whole numbers surely compare with one another, so their order is asked last.
    return all([is_within(count, 0, len(thing) - 1) for count in thing]) and is_falling(thing)


def must_be_counts(counts):
    """Refuse, with NoCounts, what is no counts."""
    if not is_counts(counts):
        raise NoCounts("no counts")


def counts_of(web):
    """To how many places each place of the web is tied, none greater than the one ahead."""
    must_be_web(web)
    many, ties = web
    return tuple(sorted([len(tied) for tied in tied_places(many, ties)], reverse=True))


def has_web(counts):
    """Whether some web, of however many places, has the counts."""
    return none_paper(counts) is None


def is_none_paper(counts, thing):
    """Whether anything is a paper that no web has the counts."""
    must_be_counts(counts)
    if not isinstance(thing, tuple):
        return False
    if thing == ("odd",):
        return is_odd(counts)
    if len(thing) != 2 or thing[0] != "much":
        return False
    return is_within(thing[1], 1, len(counts)) and is_much(counts, thing[1])


def is_odd(counts):
    """Whether counts come to an odd number: each tie is counted twice, so those of a web never do."""
    return sum(counts) % 2 == 1


def is_much(counts, first):
    """Whether so many first counts come to more than those places can have among them and from others."""
    others = [min(count, first) for count in counts[first:]]
    return sum(counts[:first]) > first * (first - 1) + sum(others)


def none_paper(counts):
    """A paper that no web has the counts, None where some web has them."""
    must_be_counts(counts)
    if is_odd(counts):
        return ("odd",)
    much = [first for first in range(1, len(counts) + 1) if is_much(counts, first)]
    return ("much", much[0]) if much else None


def must_be_few_counts(counts, most):
    """Refuse, with NoCounts or TooGreat, what is no counts of at most so many."""
    must_be_counts(counts)
    must_be_few(len(counts), most)


def webs_with(counts):
    """How many webs have at each place as many ties as the counts tell there."""
    must_be_few_counts(counts, MOST_PLACES)
    return len(webs_at(counts))


def first_web(counts):
    """The first of the webs that have at each place as many ties as the counts tell there, None where there is none."""
    must_be_few_counts(counts, MOST_PLACES)
    return min(webs_at(counts), default=None)


def kinds_with(counts):
    """All forms of webs that have the counts, a rising list."""
    must_be_few_counts(counts, MOST_FORMED)
    # Each such web is alike with one in which each place has the count that is told there.
    return sorted({form(web) for web in webs_at(counts)})


def webs_at(counts):
    """All webs that have at each place as many ties as the counts tell there."""
    many = len(counts)
    begun = [((), counts)]
    for pair in pairs_of(many):
        begun = [row for ties, lacking in begun for row in with_or_without(ties, lacking, pair)]
    return [(many, ties) for ties, lacking in begun if sum(lacking) == 0]


def with_or_without(ties, lacking, pair):
    """The ties of a web begun, with a next pair and without it, each with what its places lack then."""
    a, b = pair
    rows = []
    if lacking[a] > 0 and lacking[b] > 0:
        left = [count - 1 if place in pair else count for place, count in enumerate(lacking)]
        rows.append((ties + (pair,), tuple(left)))
    # Behind this pair the place a has only pairs with the places behind b.
    if lacking[a] < len(lacking) - b:
        rows.append((ties, lacking))
    return rows
