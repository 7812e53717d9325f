"""[91] marks of a web and marks alike, [92] kinds of marks, [93] kinds of webs with marks."""

import functools
import itertools
import math
import time
import unittest

from tests.kindwise import lengths_of_pairs, turns_with
from tests.things import (
    Refusals, all_pairs, all_turns, all_webs, anything, kinds_by_cuts, no_numbers, no_webs)
from websbykind.errors import NoMarks, NoNumber, NoNumbers, NoWeb
from websbykind.marks import all_marks, are_marks, first_marks, marked_many, marks_many, marks_turn, marks_with
from websbykind.webs import turned

ROW = (4, ((0, 1), (1, 2), (2, 3)))
ROUND = (4, ((0, 1), (0, 3), (1, 2), (2, 3)))
PLAIN = (6, ((0, 1), (1, 2), (1, 5), (2, 3), (2, 4), (3, 4), (4, 5)))


def webs_at_hand():
    """Webs of one to six places, with no tie, with all, with few own turns and with many."""
    found = [(many, ties) for many in range(1, 7) for ties in [(), tuple(all_pairs(many))]]
    found += [web for many in range(2, 5) for web in all_webs(many)[1:-1:2]]
    found += all_webs(5)[3::101] + all_webs(6)[5::4001]
    return found + [ROW, ROUND, PLAIN]


@functools.cache
def own(web):
    return [turn for turn in all_turns(web[0]) if turned(web, turn) == web]


def moved(marks, turn):
    """The marks led on: each is put where its place goes."""
    found = [None] * len(marks)
    for place, mark in enumerate(marks):
        found[turn[place]] = mark
    return tuple(found)


def every_marks(web, sorts):
    return list(itertools.product(range(sorts), repeat=web[0]))


@functools.cache
def kinds_of_marks(web, sorts):
    """The first ones of all marks, each of all marks taken with all that are alike with it."""
    waiting = set(every_marks(web, sorts))
    firsts = []
    while waiting:
        marks = waiting.pop()
        alike = {moved(marks, turn) for turn in own(web)}
        waiting -= alike
        firsts.append(min(alike))
    return sorted(firsts)


def no_marks(web):
    """What is no marks of a web, from near to far."""
    many = web[0]
    zeros = (0,) * many
    wrong = [-1, 4, 5, True, False, None, "0", "", [0], (0,), {}, 10 ** 30 - 1, -10 ** 30 + 1]
    found = [zeros[:at] + (mark,) + zeros[at + 1:] for at in range(many) for mark in wrong]
    found += [zeros + (0,), zeros[1:], (), list(zeros), [zeros], (zeros,), {place: 0 for place in range(many)},
              "0" * many, zeros * 2, (3,) * (many + 1), 0, many, 3, [3] * many]
    return found + anything()


class Marks(Refusals, unittest.TestCase):
    def test_marks(self):
        for many in range(1, 7):
            for web in [(many, ()), (many, tuple(all_pairs(many)))]:
                for marks in [(0,) * many, (3,) * many, tuple(place % 4 for place in range(many))]:
                    self.answers_truth(True, are_marks, web, marks)

    def test_all_tuples_of_few_numbers(self):
        for many in range(1, 5):
            for length in range(6):
                for thing in itertools.product([-1, 0, 3, 4], repeat=length):
                    wanted = length == many and min(thing) >= 0 and max(thing) <= 3
                    self.assertIs(are_marks((many, ()), thing), wanted)

    def test_no_marks(self):
        for web in [(1, ()), (2, ((0, 1),)), (3, ()), ROW, (6, ())]:
            for thing in no_marks(web):
                self.answers_truth(False, are_marks, web, thing)

    def test_no_web_goes_ahead(self):
        for web in no_webs():
            for thing in [(0,), (0, 0, 0), None, [], (4,), ()]:
                self.refused(NoWeb, are_marks, web, thing)


class MarksAlike(Refusals, unittest.TestCase):
    def test_by_hand(self):
        self.assertEqual(marks_turn(ROW, (0, 1, 2, 3), (0, 1, 2, 3)), (0, 1, 2, 3))
        self.assertEqual(marks_turn(ROW, (0, 1, 2, 3), (3, 2, 1, 0)), (3, 2, 1, 0))
        self.assertIsNone(marks_turn(ROW, (0, 1, 2, 3), (0, 2, 1, 3)))
        self.assertIsNone(marks_turn(ROW, (0, 0, 0, 0), (1, 1, 1, 1)))
        self.assertEqual(marks_turn((3, ()), (0, 1, 2), (2, 0, 1)), (1, 2, 0))
        self.assertEqual(marks_turn((3, ()), (1, 0, 0), (0, 0, 1)), (2, 0, 1))
        self.assertEqual(first_marks(ROW, (3, 2, 1, 0)), (0, 1, 2, 3))
        self.assertEqual(first_marks(ROW, (1, 0, 3, 0)), (0, 3, 0, 1))
        self.assertEqual(first_marks((3, ()), (2, 0, 1)), (0, 1, 2))
        self.assertEqual(first_marks((1, ()), (3,)), (3,))

    def test_the_mark_of_a_place_goes_where_the_place_goes(self):
        # A wheel of three stands by a turn that differs from the way back.
        web = (6, ((0, 1), (0, 2), (0, 3), (1, 2), (1, 4), (2, 5)))
        self.assertEqual(own(web)[3], (1, 2, 0, 4, 5, 3))
        self.assertEqual(marks_turn(web, (0, 1, 2, 3, 3, 3), (2, 0, 1, 3, 3, 3)), (1, 2, 0, 4, 5, 3))
        self.assertEqual(marks_turn(web, (0, 1, 2, 3, 3, 3), (1, 2, 0, 3, 3, 3)), (2, 0, 1, 5, 3, 4))

    def test_all_own_turns_gone_through(self):
        for web in webs_at_hand():
            choices = every_marks(web, 4)
            step = max(1, len(choices) // 11)
            for one in choices[::step]:
                self.assertEqual(first_marks(web, one), min(moved(one, turn) for turn in own(web)))
                others = choices[1::3 * step] + [moved(one, turn) for turn in own(web)[::131]]
                for other in others + [moved(one, own(web)[-1])]:
                    turns = [turn for turn in own(web) if moved(one, turn) == other]
                    self.assertEqual(marks_turn(web, one, other), turns[0] if turns else None)

    def test_every_two_marks_of_few_places(self):
        for web in [(1, ()), (2, ()), (3, ()), (3, ((0, 1),)), (3, ((0, 1), (0, 2)))]:
            for one, other in itertools.product(every_marks(web, 4), repeat=2):
                turns = [turn for turn in own(web) if moved(one, turn) == other]
                self.assertEqual(marks_turn(web, one, other), turns[0] if turns else None)

    def test_no_web_goes_ahead(self):
        for web in no_webs():
            for marks in [(0,), (0, 0, 0), None, [], (4,)]:
                self.refused(NoWeb, first_marks, web, marks)
                self.refused(NoWeb, marks_turn, web, marks, (0, 0, 0))
                self.refused(NoWeb, marks_turn, web, (0, 0, 0), marks)

    def test_no_marks(self):
        for web in [(1, ()), ROW, (6, ())]:
            fine = (0,) * web[0]
            for marks in no_marks(web):
                self.refused(NoMarks, first_marks, web, marks)
                self.refused(NoMarks, marks_turn, web, marks, fine)
                self.refused(NoMarks, marks_turn, web, fine, marks)
                self.refused(NoMarks, marks_turn, web, marks, marks)

    def test_of_two_marks_the_first_go_ahead(self):
        self.first_goes_ahead(marks_turn, (ROW, None, None), (ROW, None, (0,) * 4), (ROW, (0,) * 4, None))


class KindsOfMarks(Refusals, unittest.TestCase):
    def test_by_hand(self):
        self.assertEqual([marks_many((1, ()), sorts) for sorts in range(1, 5)], [1, 2, 3, 4])
        self.assertEqual([marks_many((6, ()), sorts) for sorts in range(1, 5)], [1, 7, 28, 84])
        self.assertEqual([marks_many(ROUND, sorts) for sorts in range(1, 5)], [1, 6, 21, 55])
        self.assertEqual([marks_many(ROW, sorts) for sorts in range(1, 5)], [1, 10, 45, 136])
        self.assertEqual(all_marks((1, ()), 3), [(0,), (1,), (2,)])
        self.assertEqual(all_marks((2, ()), 2), [(0, 0), (0, 1), (1, 1)])
        self.assertEqual(all_marks((3, ((1, 2),)), 2), [
            (0, 0, 0), (0, 0, 1), (0, 1, 1), (1, 0, 0), (1, 0, 1), (1, 1, 1)])
        self.assertEqual(all_marks(ROUND, 1), [(0, 0, 0, 0)])

    def test_all_marks_gone_through(self):
        for web in webs_at_hand():
            for sorts in range(1, 4):
                found = all_marks(web, sorts)
                self.assertIs(found.__class__, list)
                self.assertEqual(found, kinds_of_marks(web, sorts))
                self.assertEqual(found, sorted(set(found)))
            for sorts in range(1, 5):
                self.assertEqual(marks_many(web, sorts), len(kinds_of_marks(web, sorts)))
                self.assertIs(marks_many(web, sorts).__class__, int)

    def test_each_first_one_is_its_own_first(self):
        for web in [ROW, ROUND, PLAIN, (6, ())]:
            for marks in all_marks(web, 3)[::7]:
                self.assertEqual(first_marks(web, marks), marks)

    def test_no_web_goes_ahead(self):
        for ask in [marks_many, all_marks]:
            for web in no_webs():
                for sorts in [1, 0, 5, None, "2"]:
                    self.refused(NoWeb, ask, web, sorts)

    def test_no_number(self):
        for web in [(1, ()), ROW, (6, ())]:
            for sorts in no_numbers(4):
                self.refused(NoNumber, marks_many, web, sorts)
            for sorts in no_numbers(3):
                self.refused(NoNumber, all_marks, web, sorts)


def shares(many):
    """All tuples of four numbers that come to so many."""
    return [numbers for numbers in itertools.product(range(many + 1), repeat=4) if sum(numbers) == many]


def no_shares(many):
    """What is no tuple of four numbers that come to so many, from near to far."""
    return [
        (many + 1, 0, 0, 0), (many, 0, 0, 1), (many - 1, 0, 0, 0), (0, 0, 0, many - 1), (many, 1, 0, 0), (0, 0, 0, 0),
        (many + 1, -1, 0, 0), (-1, many + 1, 0, 0), (-1, 0, 0, many + 1), (many, 0, 0), (many, 0, 0, 0, 0), (many,), (),
        (many - 1, True, 0, 0), (many, False, 0, 0), (many, 0, 0, False), (True,) * 4, [many, 0, 0, 0],
        (many, 0, 0, None), (many, 0, 0, "0"), (str(many), 0, 0, 0), (many, 0, 0, [0]), (many, 0, 0, (0,)),
        (many, 0, 0, {}), ((many, 0, 0, 0),), [(many, 0, 0, 0)], {many: 0}, {0: many, 1: 0, 2: 0, 3: 0},
        str(many), f"{many}000", many, None, True, (10 ** 30 - 1, many - 10 ** 30 + 1, 0, 0), (many, None, 0, 0),
        (many, 0, "", 0), (1,) * 4 * (many != 4), (many, 1, -1, 0), (0, -1, many, 1), (many - 1, 2, 0, -1),
        (-1, 1, 0, many), (many, -2, 1, 1),
    ] + anything()


class MarksWith(Refusals, unittest.TestCase):
    def test_by_hand(self):
        self.assertEqual(marks_with((1, ()), (0, 0, 0, 1)), 1)
        self.assertEqual(marks_with(ROW, (1, 1, 1, 1)), 12)
        self.assertEqual(marks_with(ROW, (2, 2, 0, 0)), 4)
        self.assertEqual(marks_with(ROUND, (2, 0, 2, 0)), 2)
        self.assertEqual(marks_with((6, ()), (2, 2, 1, 1)), 1)
        self.assertEqual(marks_with(PLAIN, (2, 2, 1, 1)), 180)

    def test_all_marks_gone_through(self):
        for web in webs_at_hand():
            kinds = kinds_of_marks(web, 4)
            for numbers in shares(web[0])[::1 if web[0] < 5 else 3]:
                wanted = sum(tuple(marks.count(mark) for mark in range(4)) == numbers for marks in kinds)
                self.assertEqual(marks_with(web, numbers), wanted)
                self.assertIs(marks_with(web, numbers).__class__, int)

    def test_of_all_numbers_together_all_kinds(self):
        for web in [(3, ((0, 1),)), ROW, ROUND]:
            self.assertEqual(sum(marks_with(web, numbers) for numbers in shares(web[0])), marks_many(web, 4))

    def test_no_numbers(self):
        for web in [(1, ()), (3, ()), ROW, (6, ())]:
            for numbers in no_shares(web[0]):
                self.refused(NoNumbers, marks_with, web, numbers)

    def test_no_web_goes_ahead(self):
        for web in no_webs():
            for numbers in [(1, 0, 0, 0), (3, 0, 0, 0), None, [], (1,)]:
                self.refused(NoWeb, marks_with, web, numbers)


def marked_gone_through(many, sorts):
    """How many kinds of webs with marks there are, each taken with all that two turns, again and again, make of it."""
    swap = (1, 0) + tuple(range(2, many)) if many > 1 else (0,)
    wheel = tuple(range(1, many)) + (0,)
    seen = set()
    kinds = 0
    for both in itertools.product(all_webs(many), itertools.product(range(sorts), repeat=many)):
        kinds += both not in seen
        waiting = [both]
        while waiting:
            web, marks = waiting.pop()
            if (web, marks) not in seen:
                seen.add((web, marks))
                waiting += [(turned(web, turn), moved(marks, turn)) for turn in [swap, wheel]]
    return kinds


def marked_by_kinds(many, sorts):
    """The same reckoned by kinds of turns, their rounds of pairs told by the lengths of their rounds."""
    webs = sum(turns_with(kind) * 2 ** len(lengths_of_pairs(kind)) * sorts ** len(kind) for kind in kinds_by_cuts(many))
    return webs // math.factorial(many)


class WebsWithMarks(Refusals, unittest.TestCase):
    def test_known(self):
        self.assertEqual([marked_many(many, 1) for many in range(1, 10)],
                         [1, 2, 4, 11, 34, 156, 1044, 12346, 274668])
        self.assertEqual([marked_many(many, 2) for many in range(1, 10)],
                         [2, 6, 20, 90, 544, 5096, 79264, 2208612, 113743760])
        self.assertEqual([marked_many(1, sorts) for sorts in range(1, 10)], list(range(1, 10)))
        self.assertEqual([marked_many(2, sorts) for sorts in range(1, 10)], [2, 6, 12, 20, 30, 42, 56, 72, 90])

    def test_all_of_few_places_gone_through(self):
        for many, most in [(1, 9), (2, 9), (3, 6), (4, 3), (5, 1)]:
            for sorts in range(1, most + 1):
                self.assertEqual(marked_many(many, sorts), marked_gone_through(many, sorts))

    def test_every_number_of_places_and_of_sorts(self):
        for many in range(1, 10):
            for sorts in range(1, 10):
                self.assertEqual(marked_many(many, sorts), marked_by_kinds(many, sorts))
                self.assertIs(marked_many(many, sorts).__class__, int)

    def test_soon(self):
        start = time.perf_counter()
        marked_many(9, 9)
        self.assertLess(time.perf_counter() - start, 5)

    def test_no_number(self):
        for number in no_numbers(9):
            self.refused(NoNumber, marked_many, number, 1)
            self.refused(NoNumber, marked_many, 9, number)
            self.refused(NoNumber, marked_many, number, number)

    def test_the_number_of_places_goes_ahead(self):
        self.first_goes_ahead(marked_many, (0, 0), (0, 9), (9, 0))


if __name__ == "__main__":
    unittest.main()
