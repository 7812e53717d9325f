"""Kinds of turns, and how many turns have each of them."""

from websbykind.errors import NoKind
from websbykind.whole import is_whole, must_be_within

MOST_NAMES = 9


def is_kind(many, thing):
    """Whether anything is a kind of turns of so many names."""
    must_be_within(many, 1, MOST_NAMES)
    if not isinstance(thing, tuple):
        return False
    if not all([is_whole(length) and length >= 1 for length in thing]):
        return False
    return sum(thing) == many and is_falling(thing)


def is_falling(lengths):
    """Whether none of the lengths is greater than the one ahead."""
    return all([lengths[at - 1] >= lengths[at] for at in range(1, len(lengths))])


def must_be_kind(many, kind):
    """Refuse, with NoNumber or NoKind, what is no kind of turns of so many names."""
    if not is_kind(many, kind):
        raise NoKind(f"no kind of turns of {many}")


def all_kinds(many):
    """All kinds of turns of so many names, a rising list."""
    must_be_within(many, 1, MOST_NAMES)
    return kinds_up_to(many, many)


def kinds_up_to(many, most):
    """The kinds of so many, or () of none, with no length greater than most, a rising list."""
    if many == 0:
        return [()]
    kinds = []
    for first in range(1, min(many, most) + 1):
        for others in kinds_up_to(many - first, first):
            kinds.append((first,) + others)
    return kinds


def turns_many(many, kind):
    """How many turns of so many names have the kind."""
    must_be_kind(many, kind)
    # The names, in any order, fill the rounds of the kind; the same turn comes
    # for each number that a round may begin with, and for each order of like rounds.
    same = 1
    for at, length in enumerate(kind):
        same *= length * kind[:at + 1].count(length)
    return orders_many(many) // same


def orders_many(many):
    """In how many orders so many names can stand."""
    orders = 1
    for names in range(1, many + 1):
        orders *= names
    return orders
