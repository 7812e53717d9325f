"""Turns of pairs, and webs that stand by them: so kinds of webs are counted."""

from websbykind.kinds import all_kinds, must_be_kind, orders_many, turns_many
from websbykind.webs import must_be_turn, pairs_of, rounds_along, tie_of, turned
from websbykind.whole import times_itself


def pair_rounds(many, turn):
    """The rounds of pairs of a turn, a rising list of tuples, each from its least pair on."""
    must_be_turn(many, turn)
    return rounds_of_pairs(turn)


def rounds_of_pairs(turn):
    """The rounds of pairs of a turn of however many names."""
    pairs = pairs_of(len(turn))
    return rounds_along({(a, b): tie_of(turn[a], turn[b]) for a, b in pairs}, pairs)


def stands(web, turn):
    """Whether the web is itself, turned."""
    return turned(web, turn) == web


def pair_lengths(many, kind):
    """How many pairs are in each round of pairs of a turn that has the kind, none greater than the one ahead."""
    must_be_kind(many, kind)
    return tuple(sorted([len(pairs) for pairs in rounds_of_pairs(turn_with(kind))], reverse=True))


def turn_with(kind):
    """A turn that has the kind: each round takes the next names in their order."""
    turn = []
    for length in kind:
        first = len(turn)
        turn += list(range(first + 1, first + length))
        turn.append(first)
    return tuple(turn)


def standing_many(many, kind):
    """How many webs of so many places stand by a turn that has the kind."""
    # Such a web has all pairs of a round tied, or none of them.
    return times_itself(2, len(pair_lengths(many, kind)))


def standing_by_ties(many, kind):
    """The list, at place k, how many webs with k ties stand by a turn that has the kind."""
    webs = [1]
    for length in pair_lengths(many, kind):
        untied = [0] * length
        webs = [without + tied for without, tied in zip(webs + untied, untied + webs)]
    return webs


def webs_many(many):
    """How many kinds of webs of so many places there are."""
    standing = [turns_many(many, kind) * standing_many(many, kind) for kind in all_kinds(many)]
    return sum(standing) // orders_many(many)


def webs_by_ties(many):
    """The list, at place k, how many kinds of webs of so many places with k ties there are."""
    kinds = all_kinds(many)
    standing = [0] * (many * (many - 1) // 2 + 1)
    for kind in kinds:
        turns = turns_many(many, kind)
        standing = [ahead + turns * webs for ahead, webs in zip(standing, standing_by_ties(many, kind))]
    return [webs // orders_many(many) for webs in standing]
