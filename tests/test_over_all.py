"""[3] and [4]: what holds over all of stage 1."""

import math
import unittest

from tests.things import all_turns, all_webs
from websbykind.kinds import all_kinds, is_kind, turns_many
from websbykind.webs import back, behind, is_turn, is_web, kind_of, rounds_of, turned


def turn_of_kind(kind):
    """Some turn that has the kind."""
    turn = []
    for length in kind:
        start = len(turn)
        turn += list(range(start + 1, start + length)) + [start]
    return tuple(turn)


class TurnsAndWebs(unittest.TestCase):
    def test_the_turns_of_all_kinds_are_all_turns(self):
        for many in range(1, 10):
            self.assertEqual(sum(turns_many(many, kind) for kind in all_kinds(many)), math.factorial(many))

    def test_a_turn_and_the_one_back(self):
        for many in range(1, 7):
            for turn in all_turns(many):
                self.assertEqual(kind_of(many, back(many, turn)), kind_of(many, turn))
                self.assertEqual(behind(many, turn, back(many, turn)), tuple(range(many)))

    def test_one_turn_and_then_another(self):
        for many in range(1, 5):
            for web in all_webs(many):
                for one in all_turns(many):
                    for other in all_turns(many):
                        both = behind(many, one, other)
                        self.assertEqual(turned(turned(web, one), other), turned(web, both))

    def test_one_turn_and_then_another_of_more_places(self):
        for many in [5, 6]:
            for web in all_webs(many)[::101]:
                for one in all_turns(many)[::37]:
                    for other in all_turns(many)[::53]:
                        both = behind(many, one, other)
                        self.assertEqual(turned(turned(web, one), other), turned(web, both))

    def test_turned_back_it_is_itself(self):
        for many in range(1, 6):
            for web in all_webs(many)[::1 if many < 5 else 7]:
                for turn in all_turns(many):
                    self.assertEqual(turned(turned(web, turn), back(many, turn)), web)

    def test_a_web_has_as_many_alike_as_there_are_turns_for_each_of_its_own(self):
        for many in range(1, 6):
            for web in all_webs(many)[::1 if many < 5 else 11]:
                found = [turned(web, turn) for turn in all_turns(many)]
                self.assertEqual(len(set(found)) * found.count(web), math.factorial(many))

    def test_all_turns_together_leave_as_many_webs_as_kinds_for_each_turn(self):
        for many in range(1, 5):
            webs = all_webs(many)
            kinds = {min(turned(web, turn) for turn in all_turns(many)) for web in webs}
            left = sum(turned(web, turn) == web for web in webs for turn in all_turns(many))
            self.assertEqual(left, len(kinds) * math.factorial(many))

    def test_the_same_by_kinds_of_turns(self):
        for many, kinds in [(1, 1), (2, 2), (3, 4), (4, 11), (5, 34), (6, 156)]:
            left = 0
            for kind in all_kinds(many):
                turn = turn_of_kind(kind)
                self.assertEqual(kind_of(many, turn), kind)
                left += turns_many(many, kind) * sum(turned(web, turn) == web for web in all_webs(many))
            self.assertEqual(left, kinds * math.factorial(many))


class NothingIsKept(unittest.TestCase):
    def test_a_list_that_was_told_is_the_askers_own(self):
        for ask, given in [(rounds_of, (4, (1, 0, 2, 3))), (all_kinds, (5,)), (all_kinds, (1,))]:
            first = ask(*given)
            wanted = list(first)
            second = ask(*given)
            self.assertIsNot(first, second)
            first.append(None)
            first.reverse()
            self.assertEqual(second, wanted)
            self.assertEqual(ask(*given), wanted)
            second.clear()
            self.assertEqual(ask(*given), wanted)

    def test_counts_stay_where_told_kinds_are_changed(self):
        told = all_kinds(4)
        told.clear()
        self.assertIs(is_kind(4, (2, 2)), True)
        self.assertEqual(turns_many(4, (2, 2)), 3)

    def test_asked_again_the_answer_is_the_same(self):
        web = (4, ((0, 1), (1, 2), (2, 3)))
        asked = [
            (is_web, (web,)), (is_turn, (4, (3, 1, 0, 2))), (turned, (web, (3, 1, 0, 2))),
            (behind, (4, (3, 1, 0, 2), (1, 2, 3, 0))), (back, (4, (3, 1, 0, 2))), (rounds_of, (4, (3, 1, 0, 2))),
            (kind_of, (4, (3, 1, 0, 2))), (is_kind, (9, (4, 4, 1))), (all_kinds, (9,)), (turns_many, (9, (4, 4, 1))),
        ]
        first = [ask(*given) for ask, given in asked]
        self.refuse_some()
        self.assertEqual([ask(*given) for ask, given in asked], first)
        self.assertEqual(web, (4, ((0, 1), (1, 2), (2, 3))))

    def refuse_some(self):
        refusals = [(turned, ((4, ((1, 0),)), (0,))), (turned, ((4, ()), [0, 1, 2, 3])), (back, (7, (0,))),
                    (rounds_of, (4, (0, 0, 1, 2))), (turns_many, (9, (1, 8))), (all_kinds, (0,))]
        for ask, given in refusals:
            with self.assertRaises(ValueError):
                ask(*given)


if __name__ == "__main__":
    unittest.main()
