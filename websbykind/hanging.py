"""Webs that hang together, and lots gathered of pieces."""

from websbykind.alike import form
from websbykind.errors import NoNumbers
from websbykind.kinds import MOST_NAMES
from websbykind.pairs import webs_by_ties, webs_many
from websbykind.webs import must_be_web, tied_places
from websbykind.whole import is_within, must_be_within

MOST_NUMBERS = 9
MOST_KINDS = 9999999999


def hangs(web):
    """Whether ties lead, one by one, from each place of the web to each other one."""
    must_be_web(web)
    return len(pieces(web)) == 1


def parts(web):
    """The forms of all pieces of the web, none less than the one ahead."""
    must_be_web(web)
    return sorted([form(piece_at(web, places)) for places in pieces(web)])


def pieces(web):
    """The places of each piece of the web, rising lists."""
    many, ties = web
    tied = tied_places(many, ties)
    found = [sorted([place for ring in rings_from(tied, start) for place in ring]) for start in range(many)]
    # Each piece was found from every one of its places: the least one's is kept.
    return [places for start, places in enumerate(found) if places[0] == start]


def rings_from(tied, start):
    """The places to which ties lead from start, those that are equally far off in a list together."""
    rings = []
    reached = []
    ring = [start]
    while ring:
        rings.append(ring)
        reached += ring
        ring = sorted({other for place in ring for other in tied[place] if other not in reached})
    return rings


def piece_at(web, places):
    """The piece of a web at these places, numbered anew in their order."""
    return (len(places), tuple([(places.index(a), places.index(b)) for a, b in web[1] if a in places]))


def is_numbers(thing):
    """Whether a thing is a list of numbers of kinds."""
    if not isinstance(thing, list) or not 1 <= len(thing) <= MOST_NUMBERS:
        return False
    return all([is_within(number, 0, MOST_KINDS) for number in thing])


def must_be_numbers(numbers):
    """Refuse, with NoNumbers, what is no list of numbers of kinds."""
    if not is_numbers(numbers):
        raise NoNumbers("no numbers of kinds")


def gathered(numbers):
    """Of how many kinds of pieces there are, by their places from 1 on, how many kinds of lots there are, likewise."""
    must_be_numbers(numbers)
    lots = [1] + [0] * len(numbers)
    for size, kinds in enumerate(numbers, start=1):
        lots = with_pieces(lots, size, kinds)
    return lots[1:]


def with_pieces(lots, size, kinds):
    """The kinds of lots of each size from 0 on, counted anew where pieces of one more size may be in them."""
    more = list(lots)
    choices = 1
    for taken in range(1, (len(lots) - 1) // size + 1):
        # In how many ways so many pieces are taken, like ones too, their order telling nothing.
        choices = choices * (kinds + taken - 1) // taken
        for others, ways in enumerate(lots[:len(lots) - taken * size]):
            more[others + taken * size] += choices * ways
    return more


def parted(numbers):
    """Of how many kinds of lots there are, by their places from 1 on, how many kinds of pieces there are, likewise."""
    must_be_numbers(numbers)
    return parted_by_size(numbers)


def parted_by_size(numbers):
    """How many kinds of pieces there are of each size from 1 on, of how many kinds of lots there are."""
    lots = [1] + [0] * len(numbers)
    found = []
    for size, number in enumerate(numbers, start=1):
        # What can't be gathered of lesser pieces is a piece itself.
        kinds = number - lots[size]
        if kinds < 0:
            raise NoNumbers("fewer lots than lesser pieces make")
        found.append(kinds)
        lots = with_pieces(lots, size, kinds)
    return found


def hanging_many(many):
    """How many kinds of webs of so many places hang together."""
    must_be_within(many, 1, MOST_NAMES)
    return parted([webs_many(places) for places in range(1, many + 1)])[-1]


def hanging_by_ties(many):
    """The list, at place k, how many kinds of webs of so many places with k ties hang together."""
    must_be_within(many, 1, MOST_NAMES)
    rows = [webs_by_ties(places) for places in range(1, many + 1)]
    width = len(rows[-1])
    # One size stands for places and ties together: places times width, and ties. A lot's ties
    # are fewer than width, so no lot is taken for one of more places. The sizes below width,
    # of ties without places, come ahead, and there is nothing of them.
    numbers = [0] * (width - 1)
    for webs in rows:
        numbers += webs + [0] * (width - len(webs))
    return parted_by_size(numbers)[-width:]
