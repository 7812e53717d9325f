"""Opposites of webs, and kinds of webs that are alike with theirs."""

from websbykind.alike import first_turn
from websbykind.kinds import all_kinds, orders_many, turns_many
from websbykind.pairs import pair_lengths
from websbykind.webs import must_be_web, pairs_of
from websbykind.whole import times_itself


def opposite(web):
    """The web that has tied all those places that the web has not."""
    must_be_web(web)
    many, ties = web
    return (many, tuple([pair for pair in pairs_of(many) if pair not in ties]))


def opposite_turn(web):
    """The first turn that leads the web to its opposite, None where there is none."""
    return first_turn(web, opposite(web))


def opposite_many(many):
    """How many kinds of webs of so many places are alike with their opposite."""
    opposing = [turns_many(many, kind) * opposing_many(many, kind) for kind in all_kinds(many)]
    return sum(opposing) // orders_many(many)


def opposing_many(many, kind):
    """How many webs of so many places a turn that has the kind leads to their opposite."""
    lengths = pair_lengths(many, kind)
    # In each round of pairs tied and untied ones must take turns, so it is even; the first one is tied or not.
    if any([length % 2 == 1 for length in lengths]):
        return 0
    return times_itself(2, len(lengths))
