"""[11] webs, [12] turns, [13] rounds and kinds of a turn."""

import unittest

from tests.things import (
    NO_WEBS, Refusals, all_pairs, all_turns, all_webs, anything, no_numbers, no_turns_at_all, no_webs)
from websbykind.errors import NoNumber, NoTurn, NoWeb
from websbykind.webs import back, behind, is_turn, is_web, kind_of, rounds_of, turned


class Webs(Refusals, unittest.TestCase):
    def test_every_web_of_up_to_five_places(self):
        for many in range(1, 6):
            for web in all_webs(many):
                self.assertIs(is_web(web), True, web)

    def test_none_one_and_all_ties_of_up_to_six_places(self):
        for many in range(1, 7):
            pairs = tuple(all_pairs(many))
            for ties in [(), pairs[:1], pairs[-1:], pairs[::2], pairs]:
                self.answers_truth(True, is_web, (many, ties))

    def test_what_is_near_a_web(self):
        for thing in NO_WEBS:
            self.answers_truth(False, is_web, thing)

    def test_anything(self):
        for thing in anything():
            self.answers_truth(False, is_web, thing)
            self.answers_truth(False, is_web, (thing, ()))
            if thing != ():
                self.answers_truth(False, is_web, (3, thing))
            self.answers_truth(False, is_web, (3, (thing,)))
            self.answers_truth(False, is_web, (3, ((0, 1), thing)))
            self.answers_truth(False, is_web, (3, ((thing, 2),)))
            self.answers_truth(False, is_web, (3, ((0, thing),)))

    def test_just_the_webs_among_all_pairs_of_ties(self):
        ties = [(a, b) for a in range(-1, 4) for b in range(-1, 4)]
        for one in ties:
            for other in ties:
                wanted = 0 <= one[0] < one[1] < 3 and 0 <= other[0] < other[1] < 3 and one < other
                self.assertIs(is_web((3, (one, other))), wanted, (one, other))


class Turns(Refusals, unittest.TestCase):
    def test_every_turn(self):
        for many in range(1, 7):
            for turn in all_turns(many):
                self.assertIs(is_turn(many, turn), True)
                for other in range(1, 7):
                    if other != many:
                        self.assertIs(is_turn(other, turn), False)

    def test_what_is_no_turn(self):
        for many in range(1, 7):
            for thing in no_turns_at_all(many):
                self.answers_truth(False, is_turn, many, thing)

    def test_just_the_turns_among_all_tuples(self):
        values = [-1, 0, 1, 2, 3]
        for thing in [(a, b, c) for a in values for b in values for c in values]:
            self.assertIs(is_turn(3, thing), thing in all_turns(3), thing)

    def test_no_number(self):
        for many in no_numbers(6):
            for thing in [(0,), (0, 1, 2), (0, 1, 2, 3, 4, 5, 6), (), None, [0], {}]:
                self.refused(NoNumber, is_turn, many, thing)


class Turned(Refusals, unittest.TestCase):
    def test_by_hand(self):
        self.assertEqual(turned((1, ()), (0,)), (1, ()))
        self.assertEqual(turned((3, ((0, 1),)), (1, 2, 0)), (3, ((1, 2),)))
        self.assertEqual(turned((3, ((0, 2),)), (1, 2, 0)), (3, ((0, 1),)))
        self.assertEqual(turned((4, ((0, 1), (1, 2), (2, 3))), (2, 0, 3, 1)), (4, ((0, 2), (0, 3), (1, 3))))
        self.assertEqual(turned((6, ((0, 1), (0, 5))), (5, 4, 3, 2, 1, 0)), (6, ((0, 5), (4, 5))))
        self.assertEqual(turned((6, tuple(all_pairs(6))), (3, 1, 4, 0, 5, 2)), (6, tuple(all_pairs(6))))

    def test_tied_just_where_the_web_has_them_tied(self):
        for many in range(1, 5):
            for web in all_webs(many):
                for turn in all_turns(many):
                    ties = {frozenset((turn[a], turn[b])) for a, b in web[1]}
                    wanted = (many, tuple(pair for pair in all_pairs(many) if frozenset(pair) in ties))
                    self.assertEqual(turned(web, turn), wanted)

    def test_is_a_web_of_as_many_ties(self):
        for web in all_webs(6)[::97]:
            for turn in all_turns(6)[::31]:
                found = turned(web, turn)
                self.assertIs(is_web(found), True)
                self.assertEqual(len(found[1]), len(web[1]))

    def test_no_web_goes_ahead(self):
        for web in no_webs():
            for turn in [(0, 1, 2), (0,), (0, 0), None, [0], {}, ([], {})]:
                self.refused(NoWeb, turned, web, turn)

    def test_no_turn(self):
        for many in range(1, 7):
            for turn in no_turns_at_all(many):
                self.refused(NoTurn, turned, (many, ()), turn)
                self.refused(NoTurn, turned, (many, tuple(all_pairs(many))), turn)
        for turn in [(0, 1), (0, 1, 2, 3)]:
            self.refused(NoTurn, turned, (3, ((0, 1),)), turn)


class BehindAndBack(Refusals, unittest.TestCase):
    def test_by_hand(self):
        self.assertEqual(behind(1, (0,), (0,)), (0,))
        self.assertEqual(behind(3, (1, 0, 2), (0, 2, 1)), (2, 0, 1))
        self.assertEqual(behind(3, (0, 2, 1), (1, 0, 2)), (1, 2, 0))
        self.assertEqual(back(1, (0,)), (0,))
        self.assertEqual(back(3, (1, 2, 0)), (2, 0, 1))
        self.assertEqual(back(6, (1, 2, 3, 4, 5, 0)), (5, 0, 1, 2, 3, 4))

    def test_first_the_one_then_the_other(self):
        for many in range(1, 6):
            for one in all_turns(many):
                for other in all_turns(many):
                    found = behind(many, one, other)
                    self.assertIs(found.__class__, tuple)
                    self.assertEqual(list(found), [other[one[name]] for name in range(many)])

    def test_back_and_forth_does_nothing(self):
        for many in range(1, 7):
            still = tuple(range(many))
            for turn in all_turns(many):
                self.assertEqual(behind(many, turn, back(many, turn)), still)
                self.assertEqual(behind(many, back(many, turn), turn), still)
                self.assertEqual(back(many, back(many, turn)), turn)
                self.assertIs(is_turn(many, back(many, turn)), True)

    def test_no_number_goes_ahead(self):
        for many in no_numbers(6):
            for turn in [(0,), (0, 1, 2), (0, 0), None, [0], {}, ([], {})]:
                self.refused(NoNumber, back, many, turn)
                self.refused(NoNumber, behind, many, turn, turn)
                self.refused(NoNumber, behind, many, (0,), turn)

    def test_no_turn(self):
        for many in range(1, 7):
            still = tuple(range(many))
            for turn in no_turns_at_all(many):
                self.refused(NoTurn, back, many, turn)
                self.refused(NoTurn, behind, many, turn, still)
                self.refused(NoTurn, behind, many, still, turn)
                self.refused(NoTurn, behind, many, turn, turn)

    def test_the_first_turn_is_looked_at_first(self):
        self.first_goes_ahead(behind, (2, (0, 0), (1, 1)), (2, (0, 0), (0, 1)), (2, (0, 1), (1, 1)))


class Rounds(Refusals, unittest.TestCase):
    def test_by_hand(self):
        self.assertEqual(rounds_of(1, (0,)), [(0,)])
        self.assertEqual(rounds_of(3, (0, 1, 2)), [(0,), (1,), (2,)])
        self.assertEqual(rounds_of(3, (2, 0, 1)), [(0, 2, 1)])
        self.assertEqual(rounds_of(4, (0, 3, 2, 1)), [(0,), (1, 3), (2,)])
        self.assertEqual(rounds_of(6, (3, 4, 2, 5, 1, 0)), [(0, 3, 5), (1, 4), (2,)])
        self.assertEqual(rounds_of(6, (0, 2, 3, 1, 5, 4)), [(0,), (1, 2, 3), (4, 5)])

    def test_every_turn(self):
        for many in range(1, 7):
            for turn in all_turns(many):
                rounds = rounds_of(many, turn)
                self.assertIs(rounds.__class__, list)
                self.assertEqual(sorted(name for names in rounds for name in names), list(range(many)))
                self.assertEqual(rounds, sorted(rounds))
                for names in rounds:
                    self.assertIs(names.__class__, tuple)
                    self.assertEqual(names[0], min(names))
                    self.assertEqual([turn[name] for name in names], list(names[1:] + names[:1]))

    def test_kind_by_hand(self):
        self.assertEqual(kind_of(1, (0,)), (1,))
        self.assertEqual(kind_of(3, (0, 1, 2)), (1, 1, 1))
        self.assertEqual(kind_of(3, (0, 2, 1)), (2, 1))
        self.assertEqual(kind_of(3, (2, 0, 1)), (3,))
        self.assertEqual(kind_of(4, (1, 0, 3, 2)), (2, 2))
        self.assertEqual(kind_of(6, (0, 2, 3, 1, 5, 4)), (3, 2, 1))
        self.assertEqual(kind_of(6, (1, 2, 3, 4, 5, 0)), (6,))

    def test_kind_of_every_turn(self):
        for many in range(1, 7):
            for turn in all_turns(many):
                kind = kind_of(many, turn)
                self.assertIs(kind.__class__, tuple)
                self.assertEqual(list(kind), sorted([len(names) for names in rounds_of(many, turn)], reverse=True))
                self.assertEqual(kind_of(many, back(many, turn)), kind)

    def test_no_number_goes_ahead(self):
        for ask in [rounds_of, kind_of]:
            for many in no_numbers(6):
                for turn in [(0,), (0, 1, 2), (0, 1, 2, 3, 4, 5, 6), (0, 0), None, [0], {}, ([], {})]:
                    self.refused(NoNumber, ask, many, turn)

    def test_no_turn(self):
        for ask in [rounds_of, kind_of]:
            for many in range(1, 7):
                for turn in no_turns_at_all(many):
                    self.refused(NoTurn, ask, many, turn)


if __name__ == "__main__":
    unittest.main()
