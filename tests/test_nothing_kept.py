"""[3]: nothing is kept, nothing handed in is changed, and asked again the answer is the same."""

import unittest

from tests.things import Refusals
from websbykind.alike import all_alike, alike_many, first_turn, form, own_turns
from websbykind.counts import (
    counts_of, first_web, has_web, is_counts, is_none_paper, kinds_with, none_paper, webs_with)
from websbykind.desk import Desk
from websbykind.errors import (
    NoCode, NoCounts, NoDeed, NoKind, NoLine, NoMarks, NoNumber, NoNumbers, NoPlace, NoText, NoTie, NoTree, NoTurn,
    NoWeb, TooGreat)
from websbykind.forms import all_forms, form_at, form_number, with_fewer, with_more
from websbykind.growing import all_codes, all_trees, codes_many, trees_many
from websbykind.hanging import gathered, hanging_by_ties, hanging_many, hangs, parted, parts
from websbykind.kinds import all_kinds, is_kind, turns_many
from websbykind.marks import all_marks, are_marks, first_marks, marked_many, marks_many, marks_turn, marks_with
from websbykind.opposites import opposite, opposite_many, opposite_turn
from websbykind.pairs import (
    pair_lengths, pair_rounds, standing_by_ties, standing_many, stands, webs_by_ties, webs_many)
from websbykind.texts import read_turn, read_web, turn_text, web_text
from websbykind.trees import code_from, freed, is_code, is_tree, middles, tree_by, tree_code
from websbykind.webs import back, behind, is_turn, is_web, kind_of, rounds_of, turned

WEB = (4, ((0, 1), (1, 2), (2, 3)))

ASKED = [
    (is_web, (WEB,)), (is_turn, (4, (3, 1, 0, 2))), (turned, (WEB, (3, 1, 0, 2))),
    (behind, (4, (3, 1, 0, 2), (1, 2, 3, 0))), (back, (4, (3, 1, 0, 2))), (rounds_of, (4, (3, 1, 0, 2))),
    (kind_of, (4, (3, 1, 0, 2))), (is_kind, (9, (4, 4, 1))), (all_kinds, (9,)), (turns_many, (9, (4, 4, 1))),
    (first_turn, (WEB, (4, ((0, 2), (0, 3), (1, 3))))), (own_turns, (WEB,)), (all_alike, (WEB,)), (form, (WEB,)),
    (alike_many, (WEB,)), (pair_rounds, (4, (3, 1, 0, 2))), (stands, (WEB, (3, 2, 1, 0))),
    (pair_lengths, (9, (4, 4, 1))), (standing_many, (9, (4, 4, 1))), (standing_by_ties, (9, (4, 4, 1))),
    (webs_many, (8,)), (webs_by_ties, (8,)), (hangs, (WEB,)), (parts, ((5, ((0, 4), (1, 3))),)),
    (gathered, ([1, 0, 2, 5],)), (parted, ([1, 2, 4, 11],)), (hanging_many, (8,)), (hanging_by_ties, (8,)),
    (is_tree, (WEB,)), (middles, (WEB,)), (is_code, ("((())())",)), (code_from, (WEB, 1)), (tree_code, (WEB,)),
    (tree_by, ("((())())",)), (freed, ("(((())))",)), (codes_many, (20,)), (trees_many, (20,)), (all_codes, (6,)),
    (all_trees, (6,)), (is_counts, ((3, 2, 2, 1),)), (counts_of, (WEB,)), (has_web, ((3, 2, 2, 1),)),
    (none_paper, ((3, 3, 1, 1),)), (is_none_paper, ((3, 3, 1, 1), ("much", 2))), (webs_with, ((2, 2, 1, 1),)),
    (first_web, ((2, 2, 1, 1),)), (kinds_with, ((3, 2, 2, 2, 1),)), (all_forms, (4,)), (form_number, (WEB,)),
    (form_at, (4, 7)), (with_more, (WEB,)), (with_fewer, (WEB,)), (opposite, (WEB,)), (opposite_turn, (WEB,)),
    (opposite_many, (9,)), (are_marks, (WEB, (0, 1, 2, 3))), (marks_turn, (WEB, (0, 1, 2, 3), (3, 2, 1, 0))),
    (first_marks, (WEB, (3, 2, 1, 0))), (marks_many, (WEB, 4)), (all_marks, (WEB, 3)),
    (marks_with, (WEB, (1, 1, 1, 1))), (marked_many, (9, 9)), (web_text, (WEB,)), (turn_text, (4, (3, 1, 0, 2))),
    (read_web, ("4: 0-1 2-3",)), (read_turn, (4, "(0 3 2)")),
]

REFUSED = [
    (NoWeb, turned, ((4, ((1, 0),)), (0,))), (NoTurn, turned, ((4, ()), [0, 1, 2, 3])), (NoNumber, back, (7, (0,))),
    (NoTurn, rounds_of, (4, (0, 0, 1, 2))), (NoKind, turns_many, (9, (1, 8))), (NoNumber, all_kinds, (0,)),
    (NoWeb, first_turn, (WEB, None)), (NoTurn, stands, (WEB, [3, 2, 1, 0])), (NoNumber, webs_by_ties, (10,)),
    (NoKind, standing_by_ties, (9, (4, 4))), (NoNumbers, gathered, ([1, -1],)), (NoNumbers, parted, ([2, 0],)),
    (NoNumber, hanging_by_ties, (10,)), (NoTree, middles, ((4, ()),)), (NoPlace, code_from, (WEB, 4)),
    (NoCode, freed, ("(()(()))",)), (TooGreat, tree_by, ("(((((((())))))))",)),
    (NoNumber, codes_many, (21,)), (NoNumber, all_trees, (9,)), (NoCounts, none_paper, ([1, 1],)),
    (NoCounts, kinds_with, ((1, 2),)), (TooGreat, first_web, ((0,) * 7,)), (NoNumber, all_forms, (6,)),
    (NoNumber, form_at, (4, 11)), (TooGreat, with_more, ((6, ()),)), (NoWeb, form_number, ((6, []),)),
    (NoWeb, opposite_turn, ((4, [(0, 1)]),)), (NoNumber, opposite_many, (10,)), (NoMarks, first_marks, (WEB, [0] * 4)),
    (NoMarks, marks_turn, (WEB, (0,) * 4, (4,) * 4)), (NoNumber, all_marks, (WEB, 4)), (NoNumber, marks_many, (WEB, 5)),
    (NoNumbers, marks_with, (WEB, [4, 0, 0, 0])), (NoNumber, marked_many, (9, 10)), (NoText, read_web, ("4: 1-0",)),
    (NoText, read_turn, (4, ["(0 1)"])), (NoTurn, turn_text, (4, [0, 1, 2, 3])),
]


class NothingIsKept(Refusals, unittest.TestCase):
    def test_a_list_that_was_told_is_the_askers_own(self):
        lists = [(ask, given) for ask, given in ASKED if isinstance(ask(*given), list)]
        self.assertEqual(len(lists), 18)
        few = [(all_kinds, (1,)), (webs_by_ties, (1,)), (parts, ((1, ()),)), (gathered, ([3],)), (all_codes, (1,)),
               (all_trees, (1,)), (all_forms, (1,)), (kinds_with, ((0,),)), (kinds_with, ((1, 0),)),
               (with_more, ((1, ()),)), (with_fewer, ((1, ()),)), (all_marks, ((1, ()), 1))]
        for ask, given in lists + few:
            first = ask(*given)
            wanted = list(first)
            second = ask(*given)
            self.assertIsNot(first, second)
            first.append(None)
            first.reverse()
            self.assertEqual(second, wanted)
            self.assertEqual(ask(*given), wanted)
            second.clear()
            self.assertEqual(ask(*given), wanted)

    def test_counts_stay_where_what_was_told_is_changed(self):
        for told in [all_kinds(4), webs_by_ties(4), hanging_by_ties(4), own_turns(WEB), all_alike(WEB), parts(WEB),
                     standing_by_ties(4, (2, 2)), pair_rounds(4, (1, 0, 2, 3)), all_codes(4), all_trees(4),
                     all_forms(4), kinds_with((2, 2, 1, 1)), with_more(WEB), with_fewer(WEB), all_marks(WEB, 3)]:
            told.clear()
        self.assertIs(is_kind(4, (2, 2)), True)
        self.assertEqual(turns_many(4, (2, 2)), 3)
        self.assertEqual((webs_many(4), hanging_many(4), alike_many(WEB)), (11, 6, 12))
        self.assertEqual((codes_many(4), trees_many(4), form_number(WEB)), (4, 2, 8))
        self.assertEqual((marks_many(WEB, 3), first_marks(WEB, (2, 1, 0, 0))), (45, (0, 0, 1, 2)))
        self.assertEqual((form_at(4, 8), webs_with((2, 2, 1, 1))), ((4, ((0, 1), (0, 2), (1, 3))), 2))

    def test_a_list_handed_in_may_be_changed_later(self):
        numbers = [1, 1, 2]
        lots = gathered(numbers)
        pieces = parted(lots)
        numbers.clear()
        lots_then = list(lots)
        lots.append(9)
        self.assertEqual(pieces, [1, 1, 2])
        self.assertEqual(gathered([1, 1, 2]), lots_then)

    def test_asked_again_the_answer_is_the_same(self):
        first = [ask(*given) for ask, given in ASKED]
        for wanted, ask, given in REFUSED:
            self.refused(wanted, ask, *given)
        self.assertEqual([ask(*given) for ask, given in reversed(ASKED)], first[::-1])
        self.assertEqual([ask(*given) for ask, given in ASKED], first)
        self.assertEqual(WEB, (4, ((0, 1), (1, 2), (2, 3))))


class ADeskKeepsItsOwnWebAlone(Refusals, unittest.TestCase):
    def test_questions_again_and_again(self):
        desk = Desk()
        for line in ["places 4", "tie 0 1", "tie 1 2", "tie 2 3"]:
            self.assertEqual(desk.say(line), "ok")
        wanted = ["4: 0-1 1-2 2-3", "2", "12", "8", "(0 1 3 2)"]
        for _ in range(3):
            self.assertEqual([desk.say(line) for line in ["web", "own", "alike", "number", "even"]], wanted)
            for ask, given in ASKED:
                ask(*given)
            for refusal, line in [(NoLine, ["web"]), (NoLine, "Web"), (NoPlace, "tie 0 4"), (NoTie, "tie 0 0"),
                                  (NoText, "turn (3 0)")]:
                self.refused(refusal, desk.say, line)
        for web in ["4: 0-1 1-2", "4: 0-1", "4:", "1:"]:
            self.assertEqual((desk.say("back"), desk.say("web")), ("ok", web))
        self.refused(NoDeed, desk.say, "back")


if __name__ == "__main__":
    unittest.main()
