"""Trees, their middles and their codes."""

from websbykind.errors import NoCode, NoPlace, NoTree
from websbykind.hanging import hangs, rings_from
from websbykind.webs import MOST_PLACES, must_be_web, tied_places
from websbykind.whole import is_within, must_be_few

MOST_SIGNS = 40


def is_tree(web):
    """Whether the web is a tree: it hangs together and has one tie less than places."""
    must_be_web(web)
    many, ties = web
    return len(ties) == many - 1 and hangs(web)


def must_be_tree(web):
    """Refuse, with NoWeb or NoTree, what is no tree."""
    if not is_tree(web):
        raise NoTree("no tree")


def middles(web):
    """The places of a tree from which the farthest place is as near as it can be, a rising tuple."""
    must_be_tree(web)
    many, ties = web
    return middles_along(tied_places(many, ties))


def middles_along(tied):
    """The middles of a tree of however many places, each with those tied to it."""
    far = [len(rings_from(tied, place)) for place in range(len(tied))]
    return tuple([place for place, rings in enumerate(far) if rings == min(far)])


def is_code(thing):
    """Whether anything is a code."""
    if not isinstance(thing, str) or len(thing) > MOST_SIGNS:
        return False
    # The codes closed so far: first those within no bracket, then those within each one that stands open.
    closed = [[]]
    for sign in thing:
        if sign == "(":
            closed.append([])
        elif sign == ")" and len(closed) > 1:
            branches = closed.pop()
            if branches != sorted(branches):
                return False
            closed[-1].append(joined(branches))
        else:
            return False
    return len(closed) == 1 and len(closed[0]) == 1


def joined(branches):
    """The code that has these codes in its brackets."""
    return "(" + "".join(branches) + ")"


def must_be_code(code):
    """Refuse, with NoCode, what is no code."""
    if not is_code(code):
        raise NoCode("no code")


def code_from(web, place):
    """The code of a tree from a place of it."""
    must_be_tree(web)
    many, ties = web
    if not is_within(place, 0, many - 1):
        raise NoPlace(f"no place of {many}")
    return code_along(tied_places(many, ties), place, None)


def code_along(tied, place, first):
    """The code of a place's part of a tree, the one without the first place, from it; of the whole one of None."""
    return joined(sorted([code_along(tied, other, place) for other in tied[place] if other != first]))


def tree_code(web):
    """The code of a tree: the least one of those from its middles."""
    must_be_tree(web)
    many, ties = web
    return least_code(tied_places(many, ties))


def least_code(tied):
    """The code of a tree of however many places, each with those tied to it."""
    return min([code_along(tied, place, None) for place in middles_along(tied)])


def tree_by(code):
    """The tree of a code, its places numbered as their brackets open."""
    must_be_code(code)
    many = code.count("(")
    must_be_few(many, MOST_PLACES)
    return (many, tuple(sorted(ties_by(code))))


def ties_by(code):
    """The ties of a code's tree of however many places: each place with that in whose brackets it stands."""
    ties = []
    within = []
    many = 0
    for sign in code:
        if sign == "(":
            if within:
                ties.append((within[-1], many))
            within.append(many)
            many += 1
        else:
            within.pop()
    return ties


def freed(code):
    """The code of a code's tree, however great, from its middles, the least one."""
    must_be_code(code)
    return least_code(tied_places(code.count("("), ties_by(code)))
