"""Codes and kinds of trees of so many places: counted by those of fewer places, and of few places listed."""

from websbykind.hanging import with_pieces
from websbykind.trees import freed, joined
from websbykind.whole import must_be_within

MOST_COUNTED = 20
MOST_LISTED = 8


def codes_many(many):
    """How many codes of so many places there are."""
    must_be_within(many, 1, MOST_COUNTED)
    return codes_by_places(many)[-1]


def codes_by_places(many):
    """How many codes there are of each number of places, from 1 to so many."""
    lots = [1] + [0] * (many - 1)
    found = []
    for places in range(1, many + 1):
        # Within its outer brackets a code has a lot of codes that have one place less together.
        codes = lots[places - 1]
        found.append(codes)
        lots = with_pieces(lots, places, codes)
    return found


def trees_many(many):
    """How many kinds of trees of so many places there are."""
    must_be_within(many, 1, MOST_COUNTED)
    codes = codes_by_places(many)
    lesser = codes[:-1]
    both = sum([one * other for one, other in zip(lesser, lesser[::-1])])
    # Two like codes make one such tuple, two unlike ones make two: with the like ones the sum is even.
    like = codes[many // 2 - 1] if many % 2 == 0 else 0
    return codes[-1] - (both - like) // 2


def all_codes(many):
    """All codes of so many places, a rising list."""
    must_be_within(many, 1, MOST_LISTED)
    lots = [[[]]] + [[] for places in range(1, many)]
    for places in range(1, many):
        codes = [closed(lot) for lot in lots[places - 1]]
        for code in codes:
            lots = with_code(lots, places, code)
    return sorted([closed(lot) for lot in lots[-1]])


def closed(lot):
    """The code that has the codes of a lot in its brackets, in their order."""
    return joined(sorted(lot))


def with_code(lots, places, code):
    """The lots of codes of each size from 0 on, where one more code, of so many places, may be in them."""
    more = []
    for size, ahead in enumerate(lots):
        # The lesser lots, with that code as often as it fits, are there already.
        again = [lot + [code] for lot in more[size - places]] if size >= places else []
        more.append(ahead + again)
    return more


def all_trees(many):
    """The codes of all trees of so many places, from their middles, a rising list."""
    return sorted({freed(code) for code in all_codes(many)})
