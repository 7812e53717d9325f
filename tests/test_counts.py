"""[61] counts, [62] whether some web has them, [63] how many, and the first, [64] the forms that have them."""

import collections
import functools
import itertools
import random
import unittest

from tests.kindwise import least_turned
from tests.things import Refusals, all_counts, all_webs, anything, counts_by_ties, no_webs, some_webs
from websbykind.alike import form
from websbykind.counts import (
    counts_of, first_web, has_web, is_counts, is_none_paper, kinds_with, none_paper, webs_with)
from websbykind.errors import NoCounts, NoWeb
from websbykind.webs import is_web

NO_COUNTS = [
    (), (1,), (2,), (-1,), (2, 0), (2, 2), (1, -1), (0, 1), (0, 0, 1), (1, 0, 1), (2, 1, 2), (3, 0, 0), (3, 3, 3),
    (6, 0, 0, 0, 0, 0), (12,) * 12, (12,) + (0,) * 11, (0,) * 13, (12,) * 13, (1,) * 13, (0,) * 12 + (-1,), (0,) * 100,
    (True,), (False,), (True, True), (1, True), (True, 0), (1, False), (False, False), (2, 1, False), (2, True, 0),
    [0], [1, 1], [2, 1, 1], [], (1, "1"), ("0",), ("1", "1"), (0, None), (None, 0), (0, [0]), ([0], 0), (0, ()),
    ((0,), 0), ((0,),), ((1, 1),), (0, {}), ({}, 0), {0: 0}, {1: 1}, {}, "0", "11", "", 0, 1, None, True, False,
    (10 ** 30 - 1,), (1, 10 ** 30 - 1), (-10 ** 30 + 1, 0), ((1, ()), 0),
]

# Truths, and what looks as a paper does but is none of any counts at all.
NO_PAPERS = [
    None, True, False, 0, 1, "", "odd", "much", (), (None,), (True,), ("odd",) * 2, ("odd", 1), ("odd", None), ("Odd",),
    ("odd ",), ("",), (("odd",),), ["odd"], [("odd",)], {"odd": 1}, ("odd", "odd"), ("much",), ("much", 0),
    ("much", -1), ("much", True), ("much", False), ("much", None), ("much", "1"), ("much", "one"), ("much", [1]),
    ("much", (1,)), ("much", {}), ("much", ()), ("much", 1, 1), ("much", 1, None), ("much", 2, ()), (1, "much"),
    (("much", 1),), ["much", 1], ["much", 2], [("much", 1)], {"much": 1}, ("Much", 1), ("much ", 1), ("", 1), (None, 1),
    (1,), (1, 1), ("much", 13), ("much", 10 ** 30 - 1), ("much", -10 ** 30 + 1), (["much"], 1), ({}, 1), ((), 1),
    ("mu", "ch"), ("much1",), "much1", ("even",),
]


def no_counts():
    return NO_COUNTS + anything()


@functools.cache
def webs_by_counts(many):
    """All webs of so many places, by the counts of their places in their order."""
    found = collections.defaultdict(list)
    for web in all_webs(many):
        found[counts_by_ties(web)].append(web)
    return found


def much(counts, first):
    """Whether the first so many come to more than the words of 62 leave them."""
    rest = 0
    for count in counts[first:]:
        rest += count if count < first else first
    return sum(counts[:first]) > first * (first - 1) + rest


def papers(counts):
    """All papers of counts, in the order in which the first one is told."""
    found = [("odd",)] if sum(counts) % 2 else []
    return found + [("much", first) for first in range(1, len(counts) + 1) if much(counts, first)]


def web_by_giving(counts):
    """Whether some web has counts: the greatest one ties its place to the places with the next greatest ones."""
    left = sorted(counts, reverse=True)
    while left and left[0]:
        first = left.pop(0)
        if first > len(left) or left[first - 1] == 0:
            return False
        left = sorted([count - 1 for count in left[:first]] + left[first:], reverse=True)
    return True


def drawn_counts():
    """Counts of seven to twelve, drawn: any, and such as some web has."""
    drawing = random.Random(61)
    found = []
    for many in range(7, 13):
        for _ in range(150):
            low = drawing.randrange(many)
            found.append(tuple(sorted((drawing.randrange(low, many) for _ in range(many)), reverse=True)))
        for _ in range(50):
            share = drawing.randrange(1, 10)
            ties = [pair for pair in itertools.combinations(range(many), 2) if drawing.randrange(10) < share]
            found.append(tuple(sorted(counts_by_ties((many, ties)), reverse=True)))
    return found


class Counts(Refusals, unittest.TestCase):
    def test_counts(self):
        for many in range(1, 13):
            row = tuple(range(many - 1, -1, -1))
            for counts in [(0,) * many, (many - 1,) * many, row, (many - 1,) + (0,) * (many - 1)]:
                self.answers_truth(True, is_counts, counts)

    def test_no_counts(self):
        for thing in no_counts():
            self.answers_truth(False, is_counts, thing)

    def test_all_tuples_of_few_numbers(self):
        for many in range(0, 6):
            wanted = set(all_counts(many)) if many else set()
            for thing in itertools.product(range(-1, many + 2), repeat=many):
                self.assertIs(is_counts(thing), thing in wanted, thing)

    def test_one_wrong_number_among_twelve(self):
        for at in range(12):
            for wrong in [-1, 12, True, False, None, "5", [5], (5,), {}]:
                self.answers_truth(False, is_counts, (5,) * at + (wrong,) + (5,) * (11 - at))
            self.answers_truth(at == 0, is_counts, (5,) * at + (6,) + (5,) * (11 - at))
            self.answers_truth(at == 11, is_counts, (5,) * at + (4,) + (5,) * (11 - at))
            self.answers_truth(False, is_counts, list((5,) * 12))


class CountsOf(Refusals, unittest.TestCase):
    def test_by_hand(self):
        self.assertEqual(counts_of((1, ())), (0,))
        self.assertEqual(counts_of((2, ((0, 1),))), (1, 1))
        self.assertEqual(counts_of((4, ((0, 3), (1, 3), (2, 3)))), (3, 1, 1, 1))
        self.assertEqual(counts_of((6, ((0, 5), (1, 2), (1, 5)))), (2, 2, 1, 1, 0, 0))

    def test_webs_of_one_to_six_places(self):
        for many in range(1, 7):
            for web in some_webs(many):
                found = counts_of(web)
                self.assertIs(found.__class__, tuple)
                self.assertEqual(found, tuple(sorted(counts_by_ties(web), reverse=True)))
                self.assertIs(is_counts(found), True)

    def test_no_web(self):
        for web in no_webs():
            self.refused(NoWeb, counts_of, web)


class Papers(Refusals, unittest.TestCase):
    def check(self, counts, wanted):
        self.answers_truth(wanted, has_web, counts)
        found = papers(counts)
        self.assertEqual(wanted, found == [])
        self.assertEqual(none_paper(counts), found[0] if found else None)
        for paper in [("odd",)] + [("much", first) for first in range(-1, len(counts) + 3)]:
            self.answers_truth(paper in found, is_none_paper, counts, paper)

    def test_by_hand(self):
        self.assertIsNone(none_paper((0,)))
        self.assertIsNone(none_paper((11,) * 12))
        self.assertEqual(none_paper((1, 0)), ("odd",))
        self.assertEqual(none_paper((2, 0, 0)), ("much", 1))
        self.assertEqual(none_paper((3, 3, 1, 1)), ("much", 2))
        self.assertEqual(none_paper((4, 4, 4, 1, 1)), ("much", 2))
        self.assertEqual(none_paper((5, 5, 5, 3, 2, 2)), ("much", 3))
        # Both 1 and 2 are a paper there, and so is that of an odd number: it goes ahead.
        self.assertEqual(none_paper((3, 0, 0, 0)), ("odd",))
        self.assertIs(is_none_paper((3, 0, 0, 0), ("much", 1)), True)
        self.assertIs(is_none_paper((3, 0, 0, 0), ("much", 2)), True)
        self.assertIs(is_none_paper((3, 0, 0, 0), ("much", 3)), False)

    def test_all_counts_of_up_to_six_against_all_webs(self):
        for many in range(1, 7):
            found = webs_by_counts(many)
            for counts in all_counts(many):
                self.check(counts, counts in found)

    def test_all_counts_of_seven_against_giving(self):
        for counts in all_counts(7):
            self.check(counts, web_by_giving(counts))

    def test_drawn_counts_of_up_to_twelve(self):
        found = drawn_counts()
        for counts in found:
            self.check(counts, web_by_giving(counts))
        self.assertEqual({len(counts) for counts in found if has_web(counts)}, set(range(7, 13)))
        self.assertEqual({len(counts) for counts in found if not has_web(counts)}, set(range(7, 13)))

    def test_every_least_k_comes(self):
        # The first ones tied to all others: these have then as many ties at least as the first ones are many.
        for first in range(1, 11):
            counts = (11,) * first + (first,) * (12 - first)
            lacking = counts[:-2] + (first - 1,) * 2
            self.check(counts, True)
            self.check(lacking, False)
            self.assertEqual(none_paper(lacking), ("much", first))
        found = {none_paper(counts) for counts in drawn_counts()}
        self.assertTrue({None, ("odd",), ("much", 1), ("much", 2), ("much", 3), ("much", 4)} <= found, found)

    def test_told_as_they_are(self):
        self.assertIs(none_paper((1, 0)).__class__, tuple)
        self.assertIs(none_paper((2, 0, 0)).__class__, tuple)
        self.assertIs(none_paper((2, 0, 0))[1].__class__, int)

    def test_no_papers(self):
        for counts in [(0,), (1, 1), (1, 0), (2, 0, 0), (3, 0, 0, 0), (3, 3, 1, 1), (11,) * 2 + (0,) * 10]:
            for thing in NO_PAPERS + anything():
                self.answers_truth(False, is_none_paper, counts, thing)

    def test_no_counts_goes_ahead(self):
        for counts in no_counts():
            self.refused(NoCounts, has_web, counts)
            self.refused(NoCounts, none_paper, counts)
            for thing in [("odd",), ("much", 1), None, [], ("much", True)]:
                self.refused(NoCounts, is_none_paper, counts, thing)


class WebsWith(Refusals, unittest.TestCase):
    def test_by_hand(self):
        self.assertEqual((webs_with((0,)), first_web((0,))), (1, (1, ())))
        self.assertEqual((webs_with((1, 1)), first_web((1, 1))), (1, (2, ((0, 1),))))
        self.assertEqual((webs_with((1, 0)), first_web((1, 0))), (0, None))
        self.assertEqual((webs_with((1, 1, 1, 1)), first_web((1, 1, 1, 1))), (3, (4, ((0, 1), (2, 3)))))
        self.assertEqual((webs_with((3, 3, 1, 1)), first_web((3, 3, 1, 1))), (0, None))
        self.assertEqual((webs_with((2,) * 6), webs_with((3,) * 6), webs_with((1,) * 6)), (70, 70, 15))
        self.assertEqual(first_web((2, 2, 1, 1)), (4, ((0, 1), (0, 2), (1, 3))))

    def test_all_counts_of_up_to_six_against_all_webs(self):
        for many in range(1, 7):
            found = webs_by_counts(many)
            for counts in all_counts(many):
                webs = found.get(counts, [])
                self.assertEqual(webs_with(counts), len(webs), counts)
                self.assertIs(webs_with(counts).__class__, int)
                self.assertEqual(first_web(counts), min(webs, default=None), counts)
                self.assertTrue(not webs or is_web(first_web(counts)))

    def test_too_great(self):
        for counts in [(0,) * many for many in range(7, 13)] + [(11,) * 12, (1,) + (0,) * 6, tuple(range(8, -1, -1))]:
            self.too_great(len(counts), 6, webs_with, counts)
            self.too_great(len(counts), 6, first_web, counts)

    def test_no_counts_goes_ahead(self):
        for ask in [webs_with, first_web]:
            for counts in no_counts():
                self.refused(NoCounts, ask, counts)


class KindsWith(Refusals, unittest.TestCase):
    def test_by_hand(self):
        self.assertEqual(kinds_with((0,)), [(1, ())])
        self.assertEqual(kinds_with((1, 0)), [])
        self.assertEqual(kinds_with((1, 1, 0)), [(3, ((0, 1),))])
        self.assertEqual(kinds_with((3, 2, 2, 2, 1)), [
            (5, ((0, 1), (0, 2), (0, 3), (1, 2), (3, 4))), (5, ((0, 1), (0, 2), (0, 3), (1, 4), (2, 4)))])

    def test_all_counts_of_up_to_five_against_all_webs(self):
        for many in range(1, 6):
            wanted = collections.defaultdict(set)
            for web in all_webs(many):
                wanted[tuple(sorted(counts_by_ties(web), reverse=True))].add(least_turned(web))
            for counts in all_counts(many):
                found = kinds_with(counts)
                self.assertIs(found.__class__, list)
                self.assertEqual(found, sorted(wanted.get(counts, [])))
                self.assertEqual([form(web) for web in found], found)

    def test_too_great(self):
        for counts in [(0,) * many for many in range(6, 13)] + [(11,) * 12, (1,) + (0,) * 5, tuple(range(8, -1, -1))]:
            self.too_great(len(counts), 5, kinds_with, counts)

    def test_no_counts_goes_ahead(self):
        for counts in no_counts():
            self.refused(NoCounts, kinds_with, counts)


if __name__ == "__main__":
    unittest.main()
