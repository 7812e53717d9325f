"""Webs alike: where the one, turned, is the other."""

from websbykind.kinds import orders_many
from websbykind.webs import led_on, must_be_web, tied_places


def first_turn(web, other):
    """The first turn that leads the web to the other one, None where there is none."""
    must_be_web(web)
    must_be_web(other)
    if web[0] != other[0]:
        return None
    turns = turns_to(web, other)
    return turns[0] if turns else None


def own_turns(web):
    """All turns by which the web is itself, a rising list."""
    must_be_web(web)
    return turns_to(web, web)


def turns_to(web, other):
    """All turns that lead the web to another one of as many places, a rising list."""
    many = web[0]
    here = tied_places(many, web[1])
    there = tied_places(many, other[1])
    turns = [()]
    for place in range(many):
        turns = [turn + (name,) for turn in turns for name in range(many)
                 if name not in turn and fits(turn, here[place], there[name])]
    return turns


def fits(turn, here, there):
    """Whether a next place, tied to those here, may go where those there are tied, by a turn begun."""
    # The counts alone rule out most of what would be found wrong further on.
    if len(here) != len(there):
        return False
    return all([(place in here) == (name in there) for place, name in enumerate(turn)])


def all_alike(web):
    """All webs alike with the web, a rising list."""
    must_be_web(web)
    return sorted({led_on(web, turn) for turn in all_turns(web[0])})


def all_turns(many):
    """All turns of so many names, a rising list."""
    turns = [()]
    for place in range(many):
        turns = [turn + (name,) for turn in turns for name in range(many) if name not in turn]
    return turns


def form(web):
    """The first of all webs alike with the web."""
    must_be_web(web)
    return min([led_on(web, turn) for turn in all_turns(web[0])])


def alike_many(web):
    """How many webs are alike with the web."""
    must_be_web(web)
    # Each of them comes of the web by as many turns as the web has of its own.
    return orders_many(web[0]) // len(turns_to(web, web))
