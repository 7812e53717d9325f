"""Webs, turns of their places, and the rounds of turns."""

from websbykind.errors import NoTurn, NoWeb
from websbykind.whole import is_whole, is_within, must_be_within

MOST_PLACES = 6


def is_web(thing):
    """Whether anything is a web: (many, ties)."""
    if not isinstance(thing, tuple) or len(thing) != 2:
        return False
    many, ties = thing
    if not is_within(many, 1, MOST_PLACES) or not isinstance(ties, tuple):
        return False
    # Only ties surely compare with one another, so their order is asked last.
    return all([is_tie(many, tie) for tie in ties]) and is_rising(ties)


def is_tie(many, thing):
    """Whether anything is a tie (a, b) of two of so many places, a less than b."""
    if not isinstance(thing, tuple) or len(thing) != 2:
        return False
    return all([is_within(place, 0, many - 1) for place in thing]) and thing[0] < thing[1]


def is_rising(things):
    """Whether each of the things is greater than the one ahead."""
    return all([things[at - 1] < things[at] for at in range(1, len(things))])


def must_be_web(web):
    """Refuse, with NoWeb, what is no web."""
    if not is_web(web):
        raise NoWeb("no web")


def is_turn(many, thing):
    """Whether anything is a turn of so many names: each of 0 to many - 1 once."""
    must_be_within(many, 1, MOST_PLACES)
    if not isinstance(thing, tuple) or not all([is_whole(name) for name in thing]):
        return False
    return sorted(thing) == list(range(many))


def must_be_turn(many, turn):
    """Refuse, with NoNumber or NoTurn, what is no turn of so many names."""
    if not is_turn(many, turn):
        raise NoTurn(f"no turn of {many}")


def turned(web, turn):
    """The web with each tie (a, b) led to the tie of turn[a] and turn[b]."""
    must_be_web(web)
    must_be_turn(web[0], turn)
    return led_on(web, turn)


def led_on(web, turn):
    """The web turned, where it is known to be one, and the turn one of its places."""
    many, ties = web
    return (many, tuple(sorted([tie_of(turn[a], turn[b]) for a, b in ties])))


def tie_of(a, b):
    """The tie of two places, the lesser one ahead."""
    return (a, b) if a < b else (b, a)


def with_tie(web, tie):
    """The web with one tie more."""
    many, ties = web
    return (many, tuple(sorted(ties + (tie,))))


def without_tie(web, tie):
    """The web with one tie fewer."""
    many, ties = web
    return (many, tuple([other for other in ties if other != tie]))


def pairs_of(many):
    """All pairs (a, b) of so many places, a less than b, a rising list."""
    return [(a, b) for a in range(many) for b in range(a + 1, many)]


def tied_places(many, ties):
    """For each of so many places the list of those tied to it."""
    tied = [[] for place in range(many)]
    for a, b in ties:
        tied[a].append(b)
        tied[b].append(a)
    return tied


def behind(many, one, other):
    """The turn that does the one and then the other."""
    must_be_turn(many, one)
    must_be_turn(many, other)
    return tuple([other[name] for name in one])


def back(many, turn):
    """The turn that leads back."""
    must_be_turn(many, turn)
    return tuple([turn.index(name) for name in range(many)])


def rounds_of(many, turn):
    """The rounds of a turn, a rising list of tuples, each from its least number on."""
    must_be_turn(many, turn)
    return rounds_along(turn, list(range(many)))


def rounds_along(leads, starts):
    """The rounds in which each of the rising starts leads on, a rising list of tuples."""
    found = [round_from(leads, start) for start in starts]
    # Each round was found from every one of its things: the least one's is kept.
    return [things for things in found if things[0] == min(things)]


def round_from(leads, start):
    """The round that begins with start, each next thing the one that the thing ahead leads to."""
    things = [start]
    while leads[things[-1]] != start:
        things.append(leads[things[-1]])
    return tuple(things)


def kind_of(many, turn):
    """How many numbers are in each round of a turn, none greater than the one ahead."""
    return tuple(sorted([len(names) for names in rounds_of(many, turn)], reverse=True))
