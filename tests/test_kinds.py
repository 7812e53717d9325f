"""[14] kinds of turns of so many."""

import collections
import itertools
import unittest

from tests.things import Refusals, all_turns, kinds_by_cuts, no_kinds_at_all, no_numbers
from websbykind.errors import NoKind, NoNumber
from websbykind.kinds import all_kinds, is_kind, turns_many
from websbykind.webs import kind_of


def kinds_by_names(many):
    """How many turns have each kind, got by putting name by name into a round or into one of its own."""
    found = collections.Counter({(1,): 1})
    for _ in range(many - 1):
        grown = collections.Counter()
        for kind, turns in found.items():
            grown[kind + (1,)] += turns
            for at, length in enumerate(kind):
                longer = kind[:at] + (length + 1,) + kind[at + 1:]
                grown[tuple(sorted(longer, reverse=True))] += turns * length
        found = grown
    return dict(found)


class IsKind(Refusals, unittest.TestCase):
    def test_every_kind_of_just_its_own_number(self):
        for many in range(1, 10):
            for kind in kinds_by_cuts(many):
                for other in range(1, 10):
                    self.answers_truth(other == many, is_kind, other, kind)

    def test_what_is_no_kind(self):
        for many in range(1, 10):
            for thing in no_kinds_at_all(many):
                self.answers_truth(False, is_kind, many, thing)

    def test_just_the_kinds_among_all_tuples(self):
        for many in range(1, 6):
            for length in range(5):
                for thing in itertools.product(range(-1, 6), repeat=length):
                    self.assertIs(is_kind(many, thing), thing in kinds_by_cuts(many), (many, thing))

    def test_no_number(self):
        for many in no_numbers(9):
            for thing in [(1,), (), (9, 1), None, [1], {}]:
                self.refused(NoNumber, is_kind, many, thing)


class AllKinds(Refusals, unittest.TestCase):
    def test_by_hand(self):
        self.assertEqual(all_kinds(1), [(1,)])
        self.assertEqual(all_kinds(2), [(1, 1), (2,)])
        self.assertEqual(all_kinds(4), [(1, 1, 1, 1), (2, 1, 1), (2, 2), (3, 1), (4,)])
        self.assertEqual([len(all_kinds(many)) for many in range(1, 10)], [1, 2, 3, 5, 7, 11, 15, 22, 30])

    def test_all_of_them_rising(self):
        for many in range(1, 10):
            found = all_kinds(many)
            self.assertIs(found.__class__, list)
            self.assertEqual(found, kinds_by_cuts(many))
            self.assertTrue(all(is_kind(many, kind) is True for kind in found))

    def test_just_those_that_some_turn_has(self):
        for many in range(1, 7):
            self.assertEqual(all_kinds(many), sorted({kind_of(many, turn) for turn in all_turns(many)}))

    def test_no_number(self):
        for many in no_numbers(9):
            self.refused(NoNumber, all_kinds, many)


class TurnsMany(Refusals, unittest.TestCase):
    def test_by_hand(self):
        self.assertEqual(turns_many(1, (1,)), 1)
        self.assertEqual([turns_many(4, kind) for kind in all_kinds(4)], [1, 6, 3, 8, 6])
        self.assertEqual(turns_many(9, (9,)), 40320)
        self.assertEqual(turns_many(9, (3, 3, 3)), 2240)
        self.assertEqual(turns_many(9, (2, 2, 2, 2, 1)), 945)
        self.assertEqual(turns_many(9, (1,) * 9), 1)

    def test_every_kind_of_each_number(self):
        for many in range(1, 10):
            self.assertEqual({kind: turns_many(many, kind) for kind in all_kinds(many)}, kinds_by_names(many))

    def test_as_many_as_have_the_kind(self):
        for many in range(1, 7):
            counted = collections.Counter(kind_of(many, turn) for turn in all_turns(many))
            self.assertEqual({kind: turns_many(many, kind) for kind in all_kinds(many)}, dict(counted))

    def test_no_number_goes_ahead(self):
        for many in no_numbers(9):
            for kind in [(1,), (9, 1), (), None, [1], {}, ([], {})]:
                self.refused(NoNumber, turns_many, many, kind)

    def test_no_kind(self):
        for many in range(1, 10):
            for kind in no_kinds_at_all(many):
                self.refused(NoKind, turns_many, many, kind)


if __name__ == "__main__":
    unittest.main()
