"""[41] webs that hang together, [42] lots gathered of pieces, [43] kinds that hang together."""

import collections
import copy
import itertools
import time
import unittest

from tests.kindwise import by_ties, one_of_each_kind
from tests.things import (
    Refusals, all_pairs, all_turns, all_webs, anything, no_numbers, no_webs, pieces_by_ties, some_webs)
from websbykind.errors import NoNumber, NoNumbers, NoWeb
from websbykind.hanging import gathered, hanging_by_ties, hanging_many, hangs, parted, parts
from websbykind.webs import turned

HANGING_MANY = [1, 1, 2, 6, 21, 112, 853, 11117, 261080]

HANGING_BY_TIES = {
    1: [1],
    2: [0, 1],
    3: [0, 0, 1, 1],
    4: [0, 0, 0, 2, 2, 1, 1],
    5: [0, 0, 0, 0, 3, 5, 5, 4, 2, 1, 1],
    6: [0, 0, 0, 0, 0, 6, 13, 19, 22, 20, 14, 9, 5, 2, 1, 1],
    7: [0, 0, 0, 0, 0, 0, 11, 33, 67, 107, 132, 138, 126, 95, 64, 40, 21, 10, 5, 2, 1, 1],
}

# As many trees as there are of so many places stand at one tie less than places.
TREES_MANY = [1, 1, 1, 2, 3, 6, 11, 23, 47]

MOST = 9999999999


def parts_by_turns(web):
    """The parts of a web, each form the least of its piece turned by all turns."""
    found = []
    for places in pieces_by_ties(web):
        ties = tuple((places.index(a), places.index(b)) for a, b in web[1] if a in places)
        found.append(min(turned((len(places), ties), turn) for turn in all_turns(len(places))))
    return sorted(found)


class Hangs(Refusals, unittest.TestCase):
    def test_by_hand(self):
        self.answers_truth(True, hangs, (1, ()))
        self.answers_truth(True, hangs, (2, ((0, 1),)))
        self.answers_truth(False, hangs, (2, ()))
        self.answers_truth(False, hangs, (3, ((0, 1),)))
        self.answers_truth(False, hangs, (3, ((1, 2),)))
        self.answers_truth(True, hangs, (4, ((0, 3), (1, 2), (1, 3))))
        self.answers_truth(False, hangs, (4, ((0, 1), (0, 2), (1, 2))))
        self.answers_truth(False, hangs, (6, ((0, 1), (0, 2), (1, 2), (3, 4), (3, 5), (4, 5))))
        self.answers_truth(True, hangs, (6, ((0, 5), (1, 2), (1, 4), (2, 3), (3, 5))))
        for many in range(2, 7):
            self.answers_truth(False, hangs, (many, ()))
            self.answers_truth(True, hangs, (many, tuple(all_pairs(many))))

    def test_every_web(self):
        for many in range(1, 7):
            for web in all_webs(many)[::1 if many < 6 else 5]:
                self.assertIs(hangs(web), len(pieces_by_ties(web)) == 1, web)

    def test_no_web(self):
        for web in no_webs():
            self.refused(NoWeb, hangs, web)


class Parts(Refusals, unittest.TestCase):
    def test_by_hand(self):
        self.assertEqual(parts((1, ())), [(1, ())])
        self.assertEqual(parts((2, ((0, 1),))), [(2, ((0, 1),))])
        self.assertEqual(parts((4, ((0, 3), (1, 3), (2, 3)))), [(4, ((0, 1), (0, 2), (0, 3)))])
        self.assertEqual(parts((4, ((1, 2), (1, 3)))), [(1, ()), (3, ((0, 1), (0, 2)))])
        self.assertEqual(parts((5, ((0, 4), (1, 3)))), [(1, ()), (2, ((0, 1),)), (2, ((0, 1),))])
        self.assertEqual(parts((6, ((0, 2), (0, 4), (1, 3), (1, 5), (2, 4)))), [
            (3, ((0, 1), (0, 2))), (3, ((0, 1), (0, 2), (1, 2)))])
        self.assertEqual(parts((6, ((0, 1), (0, 5), (1, 5), (2, 3), (2, 4)))), [
            (3, ((0, 1), (0, 2))), (3, ((0, 1), (0, 2), (1, 2)))])

    def test_like_pieces_as_often_as_they_come(self):
        for many in range(1, 7):
            self.assertEqual(parts((many, ())), [(1, ())] * many)
        self.assertEqual(parts((6, ((0, 5), (1, 4), (2, 3)))), [(2, ((0, 1),))] * 3)

    def test_webs_of_one_to_six_places(self):
        for many in range(1, 7):
            for web in some_webs(many) + all_webs(many)[:60]:
                found = parts(web)
                self.assertIs(found.__class__, list)
                self.assertEqual(found, parts_by_turns(web), web)
                self.assertIs(hangs(web), len(found) == 1)

    def test_alike_just_where_the_parts_are_the_same(self):
        for many in range(1, 6):
            kinds = one_of_each_kind(many)
            self.assertEqual(len({tuple(parts(web)) for web in kinds}), len(kinds))

    def test_no_web(self):
        for web in no_webs():
            self.refused(NoWeb, parts, web)


def lots_one_by_one(numbers):
    """Lots of each size, all of them gone through: how often each piece is in them is chosen piece by piece."""
    places = [size for size, kinds in enumerate(numbers, start=1) for _ in range(kinds)]
    counted = collections.Counter()
    for length in range(1, len(numbers) + 1):
        for lot in itertools.combinations_with_replacement(range(len(places)), length):
            counted[sum(places[piece] for piece in lot)] += 1
    return [counted[size] for size in range(1, len(numbers) + 1)]


def lots_by_sums(numbers):
    """Lots of each size, reckoned by n times lots(n) = sum of c(k) lots(n - k), c(k) the sum of d pieces(d), d in k."""
    lots = [1]
    for size in range(1, len(numbers) + 1):
        ahead = 0
        for step in range(1, size + 1):
            weight = sum(part * numbers[part - 1] for part in range(1, step + 1) if step % part == 0)
            ahead += weight * lots[size - step]
        lots.append(ahead // size)
    return lots[1:]


SOME_NUMBERS = [
    [0], [1], [7], [MOST], [0] * 9, [1] * 9, [MOST] * 9, [0, 0, 0, 0, 0, 0, 0, 0, MOST], [MOST] + [0] * 8,
    [0, 1, 0, 2, 0, 3], [1, 1, 2, 6, 21, 112, 853, 11117, 261080], [0, MOST, 0, 5, 1234567890, 0, 1],
    [3, 2, 1], [9, 8, 7, 6, 5, 4, 3, 2, 1], [0, 0, 1], [1, 0], [2, 0, 0, 0, 0], [1000000000, 9, 99, 999],
]

NO_NUMBERS = [
    [], [1] * 10, [0] * 10, [-1], [1, -1], [0] * 8 + [-1], [MOST + 1], [1, 2, MOST + 1], [10 ** 30 - 1],
    [True], [False], [1, True], [1, False, 2], ["1"], [1, "2"], [""], [None], [1, None], [[1]], [1, [2]], [(1,)],
    [{}], [1, {1: 2}], (1,), (1, 2), (), {0: 1}, {1: 1}, "1", "12", 1, 0, None, True, [[]], [()],
]


def no_numbers_of_kinds():
    # What is told as anything has lists of numbers of kinds in it: those are left out.
    return NO_NUMBERS + [thing for thing in anything() if thing not in [[0], [1], [0, 1]]]


class Lots(Refusals, unittest.TestCase):
    def test_by_hand(self):
        self.assertEqual(gathered([0]), [0])
        self.assertEqual(gathered([5]), [5])
        self.assertEqual(gathered([2, 0]), [2, 3])
        self.assertEqual(gathered([0, 3]), [0, 3])
        self.assertEqual(gathered([1] * 9), [1, 2, 3, 5, 7, 11, 15, 22, 30])
        self.assertEqual(gathered(HANGING_MANY), [1, 2, 4, 11, 34, 156, 1044, 12346, 274668])
        self.assertEqual(parted([0]), [0])
        self.assertEqual(parted([2, 3]), [2, 0])
        self.assertEqual(parted([2, 4]), [2, 1])
        self.assertEqual(parted([1, 2, 3, 5, 7, 11, 15, 22, 30]), [1] * 9)
        self.assertEqual(parted([1, 2, 4, 11, 34, 156, 1044, 12346, 274668]), HANGING_MANY)

    def test_few_kinds_gone_through_one_by_one(self):
        for length in range(1, 5):
            for numbers in itertools.product(range(3), repeat=length):
                self.assertEqual(gathered(list(numbers)), lots_one_by_one(numbers))
        for numbers in [[2, 0, 1, 0, 1, 1], [0, 2, 1, 0, 0, 1, 1], [1, 1, 0, 1, 0, 0, 0, 1, 1]]:
            self.assertEqual(gathered(numbers), lots_one_by_one(numbers))

    def test_however_many_kinds_there_are(self):
        for numbers in SOME_NUMBERS:
            found = gathered(numbers)
            self.assertIs(found.__class__, list)
            self.assertEqual(found, lots_by_sums(numbers))
        self.assertEqual(gathered([MOST, 0]), [MOST, MOST * (MOST + 1) // 2])

    def test_parted_is_the_way_back_of_gathered(self):
        back = 0
        for numbers in SOME_NUMBERS:
            lots = gathered(numbers)
            if max(lots) <= MOST:
                back += 1
                self.assertEqual(parted(lots), numbers)
                self.assertIs(parted(lots).__class__, list)
            else:
                self.refused(NoNumbers, parted, lots)
        self.assertGreater(back, 9)

    def test_gathered_is_the_way_back_of_parted(self):
        for length in range(1, 5):
            choices = list(itertools.product(range(6), repeat=length))
            wanted = {tuple(lots_by_sums(numbers)): list(numbers) for numbers in choices}
            for lots in choices:
                if lots in wanted:
                    self.assertEqual(parted(list(lots)), wanted[lots])
                else:
                    self.refused(NoNumbers, parted, list(lots))

    def test_numbers_of_ten_figures_parted(self):
        self.assertEqual(parted([MOST]), [MOST])
        self.assertEqual(parted([0] * 8 + [MOST]), [0] * 8 + [MOST])
        self.assertEqual(parted([1] + [MOST] * 2), [1, MOST - 1, 0])
        self.assertEqual(parted([1, 1, MOST]), [1, 0, MOST - 1])

    def test_refused_where_one_were_below_0(self):
        for lots in [[1, 0], [2, 2], [2, 0, 0], [1, 2, 1], [0, 1, 0, 0], [3, 6, 9], [MOST, MOST], [1] * 8 + [0],
                     [0, 0, 1, 0, 0, 0]]:
            self.refused(NoNumbers, parted, lots)
            gathered(lots)

    def test_no_numbers(self):
        for ask in [gathered, parted]:
            for numbers in no_numbers_of_kinds():
                self.refused(NoNumbers, ask, numbers)

    def test_what_was_handed_in_stays_and_what_is_told_is_another(self):
        for numbers in SOME_NUMBERS:
            before = copy.deepcopy(numbers)
            found = gathered(numbers)
            self.assertIsNot(found, numbers)
            wanted = list(found)
            found.append(-1)
            self.assertEqual(numbers, before)
            self.assertEqual(gathered(numbers), wanted)
        for lots in [[0], [5], [0] * 9, [1] * 9, [2, 3, 4]]:
            before = list(lots)
            found = parted(lots)
            self.assertIsNot(found, lots)
            found[0] = None
            self.assertEqual(lots, before)


class KindsThatHang(Refusals, unittest.TestCase):
    def test_known(self):
        self.assertEqual([hanging_many(many) for many in range(1, 10)], HANGING_MANY)
        for many, wanted in HANGING_BY_TIES.items():
            self.assertEqual(hanging_by_ties(many), wanted)

    def test_by_ties_they_are_all(self):
        for many in range(1, 10):
            found = hanging_by_ties(many)
            self.assertIs(found.__class__, list)
            self.assertEqual(len(found), many * (many - 1) // 2 + 1)
            self.assertEqual(sum(found), HANGING_MANY[many - 1])
            self.assertEqual(found[:many], [0] * (many - 1) + [TREES_MANY[many - 1]])

    def test_of_nine_places_with_many_ties(self):
        # A web of nine places that lacks fewer than eight ties hangs together.
        self.assertEqual(hanging_by_ties(9)[29:], [148, 63, 25, 11, 5, 2, 1, 1])

    def test_all_webs_of_few_places_gone_through(self):
        for many in range(1, 7):
            found = [web for web in one_of_each_kind(many) if len(pieces_by_ties(web)) == 1]
            self.assertEqual(hanging_many(many), len(found))
            self.assertEqual(hanging_by_ties(many), by_ties(many, found))

    def test_soon(self):
        start = time.perf_counter()
        hanging_many(9)
        hanging_by_ties(9)
        self.assertLess(time.perf_counter() - start, 5)

    def test_no_number(self):
        for ask in [hanging_many, hanging_by_ties]:
            for many in no_numbers(9):
                self.refused(NoNumber, ask, many)


if __name__ == "__main__":
    unittest.main()
