"""Trees and codes of few places, all of them listed: what the program tells of them is held against these."""

import functools
import itertools

from tests.things import all_pairs, pieces_by_ties


@functools.cache
def all_trees(many):
    """All webs of so many places that are trees."""
    webs = [(many, ties) for ties in itertools.combinations(all_pairs(many), many - 1)]
    return [web for web in webs if len(pieces_by_ties(web)) == 1]


def tied_sets(many, ties):
    tied = [set() for _ in range(many)]
    for a, b in ties:
        tied[a].add(b)
        tied[b].add(a)
    return tied


def middles_by_leaves(many, ties):
    """The middles of a tree, got by taking away all ends at once, again and again."""
    tied = tied_sets(many, ties)
    left = set(range(many))
    while len(left) > 2:
        ends = [place for place in left if len(tied[place] & left) == 1]
        left -= set(ends)
    return tuple(sorted(left))


def code_by_parts(many, ties, place):
    """The code from a place, each tied place's part cut off by taking the tie away."""
    tied = tied_sets(many, ties)
    branches = []
    for other in sorted(tied[place]):
        rest = tuple(tie for tie in ties if sorted(tie) != sorted((place, other)))
        branches.append(code_by_parts(many, rest, other))
    return "(" + "".join(sorted(branches)) + ")"


def code_by_leaves(many, ties):
    return min(code_by_parts(many, ties, place) for place in middles_by_leaves(many, ties))


@functools.cache
def all_codes(many):
    """All codes of so many places: every row of lesser codes, in their order, within brackets."""
    return sorted("(" + "".join(row) + ")" for row in rows_of_codes(many - 1, ""))


def rows_of_codes(many, least):
    """All rows of codes of so many places together, none less than the one ahead, none less than least."""
    if many == 0:
        return [[]]
    found = []
    for first in range(1, many + 1):
        for code in all_codes(first):
            if code >= least:
                found += [[code] + row for row in rows_of_codes(many - first, code)]
    return found


def drawn_ties(drawing, many):
    """The ties of some tree of so many places, drawn; each place tied to one ahead, none far back at times."""
    back = drawing.choice([1, 2, 4, many])
    return tuple((drawing.randrange(max(0, place - back), place), place) for place in range(1, many))


def ties_by_depth(code):
    """The ties of a code's tree: each place with the last one ahead that stands one bracket less deep."""
    deep = [code[:at].count("(") - code[:at].count(")") for at, sign in enumerate(code) if sign == "("]
    return tuple(sorted(
        (max(other for other in range(place) if deep[other] == deep[place] - 1), place)
        for place in range(1, len(deep))))
