"""[31] turns of pairs, [32] webs that stand by a kind of turns, [33] kinds of webs."""

import itertools
import math
import time
import unittest

from tests.kindwise import by_ties, one_of_each_kind
from tests.things import (
    Refusals, all_pairs, all_turns, all_webs, kinds_by_cuts, no_kinds_at_all, no_numbers, no_turns_at_all, no_webs,
    some_webs)
from websbykind.errors import NoKind, NoNumber, NoTurn, NoWeb
from websbykind.pairs import (
    pair_lengths, pair_rounds, standing_by_ties, standing_many, stands, webs_by_ties, webs_many)
from websbykind.webs import kind_of, turned

WEBS_MANY = [1, 2, 4, 11, 34, 156, 1044, 12346, 274668]

WEBS_BY_TIES = {
    1: [1],
    2: [1, 1],
    3: [1, 1, 1, 1],
    4: [1, 1, 2, 3, 2, 1, 1],
    5: [1, 1, 2, 4, 6, 6, 6, 4, 2, 1, 1],
    6: [1, 1, 2, 5, 9, 15, 21, 24, 24, 21, 15, 9, 5, 2, 1, 1],
    7: [1, 1, 2, 5, 10, 21, 41, 65, 97, 131, 148, 148, 131, 97, 65, 41, 21, 10, 5, 2, 1, 1],
}


def lengths_by_rounds(kind):
    """The lengths of rounds of pairs, reckoned of every two rounds of names and of each by itself."""
    found = []
    for one, other in itertools.combinations(kind, 2):
        found += [math.lcm(one, other)] * math.gcd(one, other)
    for length in kind:
        found += [length] * ((length - 1) // 2)
        if length % 2 == 0:
            found.append(length // 2)
    return tuple(sorted(found, reverse=True))


def some_turn(kind):
    """A turn that has the kind, each round led down, the last one first."""
    turn = []
    for length in reversed(kind):
        turn += [len(turn) + length - 1] + list(range(len(turn), len(turn) + length - 1))
    return tuple(turn)


class PairRounds(Refusals, unittest.TestCase):
    def test_by_hand(self):
        self.assertEqual(pair_rounds(1, (0,)), [])
        self.assertEqual(pair_rounds(2, (0, 1)), [((0, 1),)])
        self.assertEqual(pair_rounds(2, (1, 0)), [((0, 1),)])
        self.assertEqual(pair_rounds(3, (0, 1, 2)), [((0, 1),), ((0, 2),), ((1, 2),)])
        self.assertEqual(pair_rounds(3, (1, 2, 0)), [((0, 1), (1, 2), (0, 2))])
        self.assertEqual(pair_rounds(3, (2, 0, 1)), [((0, 1), (0, 2), (1, 2))])
        self.assertEqual(pair_rounds(4, (1, 2, 3, 0)), [((0, 1), (1, 2), (2, 3), (0, 3)), ((0, 2), (1, 3))])
        self.assertEqual(pair_rounds(4, (1, 0, 2, 3)), [((0, 1),), ((0, 2), (1, 2)), ((0, 3), (1, 3)), ((2, 3),)])

    def test_every_turn(self):
        for many in range(1, 7):
            for turn in all_turns(many):
                rounds = pair_rounds(many, turn)
                self.assertIs(rounds.__class__, list)
                self.assertEqual(sorted(pair for pairs in rounds for pair in pairs), all_pairs(many))
                self.assertEqual(rounds, sorted(rounds))
                for pairs in rounds:
                    self.assertIs(pairs.__class__, tuple)
                    self.assertEqual(pairs[0], min(pairs))
                    self.assertEqual([tuple(sorted([turn[a], turn[b]])) for a, b in pairs],
                                     list(pairs[1:] + pairs[:1]))

    def test_no_number_goes_ahead(self):
        for many in no_numbers(6):
            for turn in [(0,), (0, 1, 2), (0, 1, 2, 3, 4, 5, 6), (0, 0), None, [0], {}, ([], {})]:
                self.refused(NoNumber, pair_rounds, many, turn)

    def test_no_turn(self):
        for many in range(1, 7):
            for turn in no_turns_at_all(many):
                self.refused(NoTurn, pair_rounds, many, turn)


class Stands(Refusals, unittest.TestCase):
    def test_by_hand(self):
        self.answers_truth(True, stands, (1, ()), (0,))
        self.answers_truth(True, stands, (3, ((0, 1),)), (1, 0, 2))
        self.answers_truth(False, stands, (3, ((0, 1),)), (0, 2, 1))
        self.answers_truth(True, stands, (4, ((0, 1), (2, 3))), (2, 3, 0, 1))
        self.answers_truth(False, stands, (4, ((0, 1), (2, 3))), (1, 2, 3, 0))

    def test_where_it_is_itself_turned(self):
        for many in range(1, 7):
            turns = all_turns(many)
            for web in some_webs(many):
                for turn in turns[::1 if many < 6 else 41]:
                    self.assertIs(stands(web, turn), turned(web, turn) == web)

    def test_all_or_none_of_each_round_of_pairs_is_tied(self):
        for many in range(1, 5):
            for web in all_webs(many):
                for turn in all_turns(many):
                    tied = [sum(pair in web[1] for pair in pairs) for pairs in pair_rounds(many, turn)]
                    wanted = all(ties in [0, len(pairs)] for ties, pairs in zip(tied, pair_rounds(many, turn)))
                    self.assertIs(stands(web, turn), wanted)

    def test_no_web_goes_ahead(self):
        for web in no_webs():
            for turn in [(0, 1, 2), (0,), (0, 0), None, [0], {}, ([], {})]:
                self.refused(NoWeb, stands, web, turn)

    def test_no_turn(self):
        for many in range(1, 7):
            for turn in no_turns_at_all(many):
                self.refused(NoTurn, stands, (many, ()), turn)
                self.refused(NoTurn, stands, (many, tuple(all_pairs(many))), turn)


class OfAKind(Refusals, unittest.TestCase):
    def test_by_hand(self):
        self.assertEqual(pair_lengths(1, (1,)), ())
        self.assertEqual(standing_many(1, (1,)), 1)
        self.assertEqual(standing_by_ties(1, (1,)), [1])
        self.assertEqual(pair_lengths(2, (2,)), (1,))
        self.assertEqual(pair_lengths(4, (4,)), (4, 2))
        self.assertEqual(standing_many(4, (4,)), 4)
        self.assertEqual(standing_by_ties(4, (4,)), [1, 0, 1, 0, 1, 0, 1])
        self.assertEqual(pair_lengths(4, (2, 1, 1)), (2, 2, 1, 1))
        self.assertEqual(standing_by_ties(4, (2, 1, 1)), [1, 2, 3, 4, 3, 2, 1])
        self.assertEqual(pair_lengths(9, (9,)), (9, 9, 9, 9))
        self.assertEqual(pair_lengths(9, (5, 4)), (20, 5, 5, 4, 2))
        self.assertEqual(standing_many(9, (1,) * 9), 2 ** 36)
        self.assertEqual(standing_by_ties(9, (1,) * 9), [math.comb(36, ties) for ties in range(37)])

    def test_every_kind_of_one_to_nine(self):
        for many in range(1, 10):
            for kind in kinds_by_cuts(many):
                lengths = lengths_by_rounds(kind)
                self.assertEqual(pair_lengths(many, kind), lengths)
                self.assertIs(pair_lengths(many, kind).__class__, tuple)
                self.assertEqual(standing_many(many, kind), 2 ** len(lengths))
                self.assertIs(standing_by_ties(many, kind).__class__, list)
                self.assertEqual(len(standing_by_ties(many, kind)), many * (many - 1) // 2 + 1)

    def test_by_ties_all_choices_of_rounds_gone_through(self):
        for many in range(1, 10):
            for kind in kinds_by_cuts(many):
                lengths = lengths_by_rounds(kind)
                if len(lengths) <= 12:
                    counted = [0] * (many * (many - 1) // 2 + 1)
                    for choice in itertools.product([0, 1], repeat=len(lengths)):
                        counted[sum(length * taken for length, taken in zip(lengths, choice))] += 1
                    self.assertEqual(standing_by_ties(many, kind), counted)
                self.assertEqual(sum(standing_by_ties(many, kind)), standing_many(many, kind))
                self.assertEqual(standing_by_ties(many, kind), standing_by_ties(many, kind)[::-1])

    def test_of_any_turn_that_has_the_kind(self):
        for many in range(1, 7):
            for turn in all_turns(many):
                lengths = sorted([len(pairs) for pairs in pair_rounds(many, turn)], reverse=True)
                self.assertEqual(pair_lengths(many, kind_of(many, turn)), tuple(lengths))

    def test_all_webs_of_few_places_gone_through(self):
        for many in range(1, 6):
            webs = all_webs(many)
            for kind in kinds_by_cuts(many):
                turn = some_turn(kind)
                self.assertEqual(kind_of(many, turn), kind)
                standing = [web for web in webs if stands(web, turn) is True]
                self.assertEqual(standing_many(many, kind), len(standing))
                self.assertEqual(standing_by_ties(many, kind), by_ties(many, standing))

    def test_no_number_goes_ahead(self):
        for ask in [pair_lengths, standing_many, standing_by_ties]:
            for many in no_numbers(9):
                for kind in [(1,), (9, 1), (), None, [1], {}, ([], {})]:
                    self.refused(NoNumber, ask, many, kind)

    def test_no_kind(self):
        for ask in [pair_lengths, standing_many, standing_by_ties]:
            for many in range(1, 10):
                for kind in no_kinds_at_all(many):
                    self.refused(NoKind, ask, many, kind)


class KindsOfWebs(Refusals, unittest.TestCase):
    def test_known(self):
        self.assertEqual([webs_many(many) for many in range(1, 10)], WEBS_MANY)
        for many, wanted in WEBS_BY_TIES.items():
            self.assertEqual(webs_by_ties(many), wanted)

    def test_by_ties_they_are_all_and_as_many_with_the_ties_as_without(self):
        for many in range(1, 10):
            found = webs_by_ties(many)
            self.assertIs(found.__class__, list)
            self.assertEqual(len(found), many * (many - 1) // 2 + 1)
            self.assertEqual(sum(found), WEBS_MANY[many - 1])
            self.assertEqual(found, found[::-1])

    def test_of_many_places_with_few_ties(self):
        # With k ties no more than 2k places are tied, so webs of more places bring none.
        self.assertEqual(webs_by_ties(8)[:6], [1, 1, 2, 5, 11, 24])
        self.assertEqual(webs_by_ties(9)[:6], [1, 1, 2, 5, 11, 25])
        self.assertEqual(webs_by_ties(9)[18], 34040)

    def test_all_webs_of_few_places_gone_through(self):
        for many in range(1, 7):
            found = one_of_each_kind(many)
            self.assertEqual(webs_many(many), len(found))
            self.assertEqual(webs_by_ties(many), by_ties(many, found))

    def test_soon(self):
        start = time.perf_counter()
        webs_many(9)
        webs_by_ties(9)
        self.assertLess(time.perf_counter() - start, 5)

    def test_no_number(self):
        for ask in [webs_many, webs_by_ties]:
            for many in no_numbers(9):
                self.refused(NoNumber, ask, many)


if __name__ == "__main__":
    unittest.main()
