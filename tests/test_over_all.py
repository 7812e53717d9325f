"""[3] and [4]: what holds over all of the program."""

import collections
import math
import unittest

from tests.things import Refusals, all_turns, all_webs, pieces_by_ties, some_webs
from websbykind.alike import all_alike, alike_many, first_turn, form, own_turns
from websbykind.errors import NoCode, NoKind, NoNumber, NoNumbers, NoPlace, NoTree, NoTurn, NoWeb, TooGreat
from websbykind.hanging import gathered, hanging_by_ties, hanging_many, hangs, parted, parts
from websbykind.kinds import all_kinds, is_kind, turns_many
from websbykind.pairs import (
    pair_lengths, pair_rounds, standing_by_ties, standing_many, stands, webs_by_ties, webs_many)
from websbykind.trees import code_from, freed, is_code, is_tree, middles, tree_by, tree_code
from websbykind.webs import back, behind, is_turn, is_web, kind_of, rounds_of, turned


def turn_of_kind(kind):
    """Some turn that has the kind."""
    turn = []
    for length in kind:
        start = len(turn)
        turn += list(range(start + 1, start + length)) + [start]
    return tuple(turn)


class TurnsAndWebs(unittest.TestCase):
    def test_the_turns_of_all_kinds_are_all_turns(self):
        for many in range(1, 10):
            self.assertEqual(sum(turns_many(many, kind) for kind in all_kinds(many)), math.factorial(many))

    def test_a_turn_and_the_one_back(self):
        for many in range(1, 7):
            for turn in all_turns(many):
                self.assertEqual(kind_of(many, back(many, turn)), kind_of(many, turn))
                self.assertEqual(behind(many, turn, back(many, turn)), tuple(range(many)))

    def test_one_turn_and_then_another(self):
        for many in range(1, 5):
            for web in all_webs(many):
                for one in all_turns(many):
                    for other in all_turns(many):
                        both = behind(many, one, other)
                        self.assertEqual(turned(turned(web, one), other), turned(web, both))

    def test_one_turn_and_then_another_of_more_places(self):
        for many in [5, 6]:
            for web in all_webs(many)[::101]:
                for one in all_turns(many)[::37]:
                    for other in all_turns(many)[::53]:
                        both = behind(many, one, other)
                        self.assertEqual(turned(turned(web, one), other), turned(web, both))

    def test_turned_back_it_is_itself(self):
        for many in range(1, 6):
            for web in all_webs(many)[::1 if many < 5 else 7]:
                for turn in all_turns(many):
                    self.assertEqual(turned(turned(web, turn), back(many, turn)), web)

    def test_a_web_has_as_many_alike_as_there_are_turns_for_each_of_its_own(self):
        for many in range(1, 6):
            for web in all_webs(many)[::1 if many < 5 else 11]:
                found = [turned(web, turn) for turn in all_turns(many)]
                self.assertEqual(len(set(found)) * found.count(web), math.factorial(many))

    def test_all_turns_together_leave_as_many_webs_as_kinds_for_each_turn(self):
        for many in range(1, 5):
            webs = all_webs(many)
            kinds = {min(turned(web, turn) for turn in all_turns(many)) for web in webs}
            left = sum(turned(web, turn) == web for web in webs for turn in all_turns(many))
            self.assertEqual(left, len(kinds) * math.factorial(many))

    def test_the_same_by_kinds_of_turns(self):
        for many, kinds in [(1, 1), (2, 2), (3, 4), (4, 11), (5, 34), (6, 156)]:
            left = 0
            for kind in all_kinds(many):
                turn = turn_of_kind(kind)
                self.assertEqual(kind_of(many, turn), kind)
                left += turns_many(many, kind) * sum(turned(web, turn) == web for web in all_webs(many))
            self.assertEqual(left, kinds * math.factorial(many))


class WebsAlike(unittest.TestCase):
    def test_own_turns_times_alike_webs_are_all_turns(self):
        for many in range(1, 7):
            for web in some_webs(many):
                self.assertEqual(len(own_turns(web)) * alike_many(web), math.factorial(many))
                self.assertEqual(len(all_alike(web)), alike_many(web))

    def test_a_web_turned_is_alike_with_the_same_form_and_parts(self):
        for many in range(1, 7):
            for web in some_webs(many)[::1 if many < 6 else 4]:
                for turn in all_turns(many)[::{4: 5, 5: 23, 6: 119}.get(many, 1)]:
                    other = turned(web, turn)
                    self.assertEqual(turned(web, first_turn(web, other)), other)
                    self.assertEqual((form(other), parts(other)), (form(web), parts(web)))
                    self.assertIs(hangs(other), hangs(web))
                    self.assertEqual(alike_many(other), alike_many(web))

    def test_as_many_kinds_as_first_forms(self):
        for many in range(1, 6):
            forms = sorted({form(web) for web in all_webs(many)})
            self.assertEqual(len(forms), webs_many(many))
            self.assertEqual(sum(alike_many(web) for web in forms), len(all_webs(many)))
            self.assertEqual([form(web) for web in forms], forms)

    def test_alike_just_where_the_parts_are_the_same(self):
        for many in range(1, 6):
            both = {(form(web), tuple(parts(web))) for web in all_webs(many)}
            self.assertEqual(len({one for one, _ in both}), len(both))
            self.assertEqual(len({other for _, other in both}), len(both))

    def test_own_turns_are_those_by_which_it_stands(self):
        for many in range(1, 6):
            for web in some_webs(many):
                self.assertEqual(own_turns(web), [turn for turn in all_turns(many) if stands(web, turn)])


class WebsThatStand(unittest.TestCase):
    def test_over_all_kinds_of_turns_they_come_to_kinds_times_turns(self):
        for many in range(1, 10):
            standing = sum(turns_many(many, kind) * standing_many(many, kind) for kind in all_kinds(many))
            self.assertEqual(standing, webs_many(many) * math.factorial(many))

    def test_by_ties_too(self):
        for many in range(1, 10):
            together = [0] * (many * (many - 1) // 2 + 1)
            for kind in all_kinds(many):
                for ties, webs in enumerate(standing_by_ties(many, kind)):
                    together[ties] += turns_many(many, kind) * webs
            self.assertEqual(together, [webs * math.factorial(many) for webs in webs_by_ties(many)])

    def test_over_all_turns_of_few_places_gone_through(self):
        for many in range(1, 5):
            standing = sum(stands(web, turn) for web in all_webs(many) for turn in all_turns(many))
            self.assertEqual(standing, webs_many(many) * math.factorial(many))


def gathered_by_ties(most):
    """How many kinds of lots of webs that hang together there are, by places and ties, up to so many places."""
    lots = collections.Counter({(0, 0): 1})
    for places in range(1, most + 1):
        for ties, kinds in enumerate(hanging_by_ties(places)):
            more = collections.Counter()
            for (here, tied), ways in lots.items():
                for taken in range((most - here) // places + 1 if kinds else 1):
                    choices = math.comb(kinds + taken - 1, taken) if kinds else 1
                    more[here + taken * places, tied + taken * ties] += ways * choices
            lots = more
    return lots


class WebsThatHang(unittest.TestCase):
    def test_gathered_they_are_all_kinds(self):
        for most in range(1, 10):
            hanging = [hanging_many(many) for many in range(1, most + 1)]
            webs = [webs_many(many) for many in range(1, most + 1)]
            self.assertEqual(gathered(hanging), webs)
            self.assertEqual(parted(webs), hanging)

    def test_by_ties_too(self):
        lots = gathered_by_ties(9)
        for many in range(1, 10):
            found = [lots[many, ties] for ties in range(many * (many - 1) // 2 + 1)]
            self.assertEqual(found, webs_by_ties(many))

    def test_those_of_few_places_are_those_with_one_part(self):
        for many in range(1, 6):
            forms = {form(web) for web in all_webs(many)}
            hanging = [web for web in forms if parts(web) == [web]]
            self.assertEqual(len(hanging), hanging_many(many))
            self.assertTrue(all(hangs(web) for web in hanging))


class TreesAndCodes(unittest.TestCase):
    def trees(self, many):
        return [web for web in all_webs(many) if len(web[1]) == many - 1 and len(pieces_by_ties(web)) == 1]

    def test_alike_just_where_their_codes_are_the_same(self):
        for many in range(1, 6):
            for web in self.trees(many):
                for other in self.trees(many)[::1 if many < 5 else 5]:
                    self.assertIs(tree_code(web) == tree_code(other), first_turn(web, other) is not None)

    def test_one_code_for_each_form(self):
        for many, wanted in zip(range(1, 7), [1, 1, 1, 2, 3, 6]):
            both = {(form(web), tree_code(web)) for web in self.trees(many)[::1 if many < 6 else 3]}
            self.assertEqual(len(both), wanted)
            self.assertEqual(len({one for one, _ in both}), wanted)
            self.assertEqual(len({code for _, code in both}), wanted)

    def test_the_tree_of_its_own_code_is_alike_with_it(self):
        for many in range(1, 7):
            for web in self.trees(many):
                tree = tree_by(tree_code(web))
                self.assertEqual(turned(web, first_turn(web, tree)), tree)
                self.assertEqual(freed(code_from(web, many - 1)), tree_code(web))

    def test_as_many_trees_as_kinds_that_hang_together_with_one_tie_less_than_places(self):
        for many in range(1, 7):
            self.assertEqual(len({tree_code(web) for web in self.trees(many)}), hanging_by_ties(many)[many - 1])


WEB = (4, ((0, 1), (1, 2), (2, 3)))

ASKED = [
    (is_web, (WEB,)), (is_turn, (4, (3, 1, 0, 2))), (turned, (WEB, (3, 1, 0, 2))),
    (behind, (4, (3, 1, 0, 2), (1, 2, 3, 0))), (back, (4, (3, 1, 0, 2))), (rounds_of, (4, (3, 1, 0, 2))),
    (kind_of, (4, (3, 1, 0, 2))), (is_kind, (9, (4, 4, 1))), (all_kinds, (9,)), (turns_many, (9, (4, 4, 1))),
    (first_turn, (WEB, (4, ((0, 2), (0, 3), (1, 3))))), (own_turns, (WEB,)), (all_alike, (WEB,)), (form, (WEB,)),
    (alike_many, (WEB,)), (pair_rounds, (4, (3, 1, 0, 2))), (stands, (WEB, (3, 2, 1, 0))),
    (pair_lengths, (9, (4, 4, 1))), (standing_many, (9, (4, 4, 1))), (standing_by_ties, (9, (4, 4, 1))),
    (webs_many, (8,)), (webs_by_ties, (8,)), (hangs, (WEB,)), (parts, ((5, ((0, 4), (1, 3))),)),
    (gathered, ([1, 0, 2, 5],)), (parted, ([1, 2, 4, 11],)), (hanging_many, (8,)), (hanging_by_ties, (8,)),
    (is_tree, (WEB,)), (middles, (WEB,)), (is_code, ("((())())",)), (code_from, (WEB, 1)), (tree_code, (WEB,)),
    (tree_by, ("((())())",)), (freed, ("(((())))",)),
]

REFUSED = [
    (NoWeb, turned, ((4, ((1, 0),)), (0,))), (NoTurn, turned, ((4, ()), [0, 1, 2, 3])), (NoNumber, back, (7, (0,))),
    (NoTurn, rounds_of, (4, (0, 0, 1, 2))), (NoKind, turns_many, (9, (1, 8))), (NoNumber, all_kinds, (0,)),
    (NoWeb, first_turn, (WEB, None)), (NoTurn, stands, (WEB, [3, 2, 1, 0])), (NoNumber, webs_by_ties, (10,)),
    (NoKind, standing_by_ties, (9, (4, 4))), (NoNumbers, gathered, ([1, -1],)), (NoNumbers, parted, ([2, 0],)),
    (NoNumber, hanging_by_ties, (10,)), (NoTree, middles, ((4, ()),)), (NoPlace, code_from, (WEB, 4)),
    (NoCode, freed, ("(()(()))",)), (TooGreat, tree_by, ("(((((((())))))))",)),
]


class NothingIsKept(Refusals, unittest.TestCase):
    def test_a_list_that_was_told_is_the_askers_own(self):
        lists = [(ask, given) for ask, given in ASKED if isinstance(ask(*given), list)]
        self.assertEqual(len(lists), 11)
        for ask, given in lists + [(all_kinds, (1,)), (webs_by_ties, (1,)), (parts, ((1, ()),)), (gathered, ([3],))]:
            first = ask(*given)
            wanted = list(first)
            second = ask(*given)
            self.assertIsNot(first, second)
            first.append(None)
            first.reverse()
            self.assertEqual(second, wanted)
            self.assertEqual(ask(*given), wanted)
            second.clear()
            self.assertEqual(ask(*given), wanted)

    def test_counts_stay_where_what_was_told_is_changed(self):
        for told in [all_kinds(4), webs_by_ties(4), hanging_by_ties(4), own_turns(WEB), all_alike(WEB), parts(WEB),
                     standing_by_ties(4, (2, 2)), pair_rounds(4, (1, 0, 2, 3))]:
            told.clear()
        self.assertIs(is_kind(4, (2, 2)), True)
        self.assertEqual(turns_many(4, (2, 2)), 3)
        self.assertEqual((webs_many(4), hanging_many(4), alike_many(WEB)), (11, 6, 12))

    def test_a_list_handed_in_may_be_changed_later(self):
        numbers = [1, 1, 2]
        lots = gathered(numbers)
        pieces = parted(lots)
        numbers.clear()
        lots_then = list(lots)
        lots.append(9)
        self.assertEqual(pieces, [1, 1, 2])
        self.assertEqual(gathered([1, 1, 2]), lots_then)

    def test_asked_again_the_answer_is_the_same(self):
        first = [ask(*given) for ask, given in ASKED]
        for wanted, ask, given in REFUSED:
            self.refused(wanted, ask, *given)
        self.assertEqual([ask(*given) for ask, given in reversed(ASKED)], first[::-1])
        self.assertEqual([ask(*given) for ask, given in ASKED], first)
        self.assertEqual(WEB, (4, ((0, 1), (1, 2), (2, 3))))


if __name__ == "__main__":
    unittest.main()
