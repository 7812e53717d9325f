"""Places with marks: marks of a web alike by its own turns, and kinds of them counted."""

from websbykind.alike import own_turns
from websbykind.errors import NoMarks, NoNumbers
from websbykind.kinds import MOST_NAMES, all_kinds, orders_many, turns_many
from websbykind.pairs import standing_many
from websbykind.webs import must_be_web, rounds_of
from websbykind.whole import is_within, must_be_within, times_itself

SORTS = 4
MOST_LISTED_SORTS = 3
MOST_COUNTED_SORTS = 9


def are_marks(web, thing):
    """Whether anything is marks of the web."""
    must_be_web(web)
    if not isinstance(thing, tuple) or len(thing) != web[0]:
        return False
    return all([is_within(mark, 0, SORTS - 1) for mark in thing])


def must_be_marks(web, marks):
    """Refuse, with NoWeb or NoMarks, what is no marks of a web."""
    if not are_marks(web, marks):
        raise NoMarks("no marks of the web")


def marks_on(marks, turn):
    """The marks that a turn leads on: that of place a stands at place turn[a] then."""
    return tuple([marks[turn.index(name)] for name in range(len(turn))])


def marks_turn(web, one, other):
    """The first of the web's own turns that leads the one marks to the other, None where there is none."""
    must_be_marks(web, one)
    must_be_marks(web, other)
    turns = [turn for turn in own_turns(web) if marks_on(one, turn) == other]
    return turns[0] if turns else None


def first_marks(web, marks):
    """The first of all marks of the web that are alike with these."""
    must_be_marks(web, marks)
    return min([marks_on(marks, turn) for turn in own_turns(web)])


def marks_many(web, sorts):
    """How many kinds of marks of the web with numbers less than sorts there are."""
    must_be_web(web)
    must_be_within(sorts, 1, SORTS)
    own = own_turns(web)
    # By a turn those marks are themselves that have one mark in each of its rounds.
    staying = [times_itself(sorts, len(rounds_of(web[0], turn))) for turn in own]
    return sum(staying) // len(own)


def all_marks(web, sorts):
    """The first ones of all kinds of marks of the web with numbers less than sorts, a rising list."""
    must_be_web(web)
    must_be_within(sorts, 1, MOST_LISTED_SORTS)
    return first_ones(web, every_marks(web[0], [web[0]] * sorts))


def every_marks(many, most):
    """All marks of so many places in which each mark stands at most as often as is told of it, a rising list."""
    found = [()]
    for place in range(many):
        found = [marks + (mark,) for marks in found for mark, often in enumerate(most) if marks.count(mark) < often]
    return found


def first_ones(web, rising):
    """Those of a rising list of marks that are alike with none ahead of them."""
    own = own_turns(web)
    seen = set()
    firsts = []
    for marks in rising:
        if marks not in seen:
            firsts.append(marks)
            for turn in own:
                seen.add(marks_on(marks, turn))
    return firsts


def marks_with(web, numbers):
    """How many kinds of marks of the web there are in which each mark stands as often as the numbers tell."""
    must_be_web(web)
    if not is_share(web[0], numbers):
        raise NoNumbers(f"no four numbers that come to {web[0]}")
    # The numbers come to as many as the places: where no mark stands too often, none stands too seldom.
    return len(first_ones(web, every_marks(web[0], numbers)))


def is_share(many, thing):
    """Whether a thing is a tuple of a number for each mark, that come to so many together."""
    if not isinstance(thing, tuple) or len(thing) != SORTS:
        return False
    return all([is_within(number, 0, many) for number in thing]) and sum(thing) == many


def marked_many(many, sorts):
    """How many kinds of webs of so many places with marks from so many sorts there are."""
    must_be_within(many, 1, MOST_NAMES)
    must_be_within(sorts, 1, MOST_COUNTED_SORTS)
    staying = [turns_many(many, kind) * standing_many(many, kind) * times_itself(sorts, len(kind))
               for kind in all_kinds(many)]
    return sum(staying) // orders_many(many)
