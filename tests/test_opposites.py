"""[81] the opposite of a web and the first turn that leads there, [82] kinds alike with their opposite."""

import math
import time
import unittest

from tests.kindwise import least_turned, lengths_of_pairs, one_of_each_kind, turns_with
from tests.things import Refusals, all_pairs, all_turns, all_webs, kinds_by_cuts, no_numbers, no_webs, some_webs
from websbykind.errors import NoNumber, NoWeb
from websbykind.opposites import opposite, opposite_many, opposite_turn
from websbykind.webs import is_web, turned

ROW = (4, ((0, 1), (1, 2), (2, 3)))
FIVE_ROUND = (5, ((0, 1), (0, 4), (1, 2), (2, 3), (3, 4)))
BULL = (5, ((0, 1), (0, 2), (1, 2), (1, 3), (2, 4)))

OPPOSITE_MANY = [1, 0, 0, 1, 2, 0, 0, 10, 36]


def untied(web):
    return (web[0], tuple(sorted(set(all_pairs(web[0])) - set(web[1]))))


def turns_over(web):
    """All turns that lead a web to its opposite, gone through in order."""
    return [turn for turn in all_turns(web[0]) if turned(web, turn) == untied(web)]


class Opposite(Refusals, unittest.TestCase):
    def test_by_hand(self):
        self.assertEqual(opposite((1, ())), (1, ()))
        self.assertEqual(opposite((2, ())), (2, ((0, 1),)))
        self.assertEqual(opposite((2, ((0, 1),))), (2, ()))
        self.assertEqual(opposite(ROW), (4, ((0, 2), (0, 3), (1, 3))))
        for many in range(1, 7):
            self.assertEqual(opposite((many, ())), (many, tuple(all_pairs(many))))
            self.assertEqual(opposite((many, tuple(all_pairs(many)))), (many, ()))

    def test_webs_of_one_to_six_places(self):
        for many in range(1, 7):
            for web in some_webs(many):
                found = opposite(web)
                self.assertEqual(found, untied(web))
                self.assertIs(is_web(found), True)
                self.assertEqual(opposite(found), web)

    def test_no_web(self):
        for web in no_webs():
            self.refused(NoWeb, opposite, web)


class OppositeTurn(Refusals, unittest.TestCase):
    def test_by_hand(self):
        self.assertEqual(opposite_turn((1, ())), (0,))
        self.assertEqual(opposite_turn(ROW), (1, 3, 0, 2))
        self.assertEqual(opposite_turn(FIVE_ROUND), (0, 2, 4, 1, 3))
        self.assertIsNone(opposite_turn((2, ())))
        self.assertIsNone(opposite_turn((3, ((0, 1),))))
        # As many ties as its opposite, and yet not alike with it.
        self.assertIsNone(opposite_turn((4, ((0, 1), (0, 2), (0, 3)))))
        self.assertIsNone(opposite_turn((5, ((0, 1), (0, 2), (0, 3), (0, 4), (1, 2)))))

    def test_all_turns_gone_through(self):
        alike = 0
        for many in range(1, 7):
            for web in some_webs(many) + [FIVE_ROUND, BULL] * (many == 5):
                turns = turns_over(web)
                found = opposite_turn(web)
                self.assertEqual(found, turns[0] if turns else None)
                if found is not None:
                    alike += 1
                    self.assertEqual(turned(web, found), opposite(web))
        self.assertGreater(alike, 20)

    def test_of_six_places_there_is_none(self):
        for web in one_of_each_kind(6):
            self.assertIsNone(opposite_turn(web))

    def test_no_web(self):
        for web in no_webs():
            self.refused(NoWeb, opposite_turn, web)


def opposite_by_kinds(many):
    """How many kinds are alike with their opposite, by the rounds of pairs of each kind of turns."""
    webs = 0
    for kind in kinds_by_cuts(many):
        lengths = lengths_of_pairs(kind)
        if all(length % 2 == 0 for length in lengths):
            webs += turns_with(kind) * 2 ** len(lengths)
    return webs // math.factorial(many)


class OppositeMany(Refusals, unittest.TestCase):
    def test_known(self):
        self.assertEqual([opposite_many(many) for many in range(1, 10)], OPPOSITE_MANY)
        for many in range(1, 10):
            self.assertIs(opposite_many(many).__class__, int)

    def test_all_webs_of_few_places_gone_through(self):
        for many in range(1, 6):
            found = [web for web in one_of_each_kind(many) if least_turned(web) == least_turned(untied(web))]
            self.assertEqual(opposite_many(many), len(found))

    def test_all_turns_of_all_webs_of_few_places(self):
        for many in range(1, 5):
            led = sum(len(turns_over(web)) for web in all_webs(many))
            self.assertEqual(opposite_many(many) * math.factorial(many), led)

    def test_reckoned_otherwise(self):
        for many in range(1, 10):
            self.assertEqual(opposite_many(many), opposite_by_kinds(many))

    def test_soon(self):
        start = time.perf_counter()
        opposite_many(9)
        self.assertLess(time.perf_counter() - start, 5)

    def test_no_number(self):
        for many in no_numbers(9):
            self.refused(NoNumber, opposite_many, many)


if __name__ == "__main__":
    unittest.main()
