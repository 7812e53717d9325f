"""[4]: what holds over all of the program."""

import collections
import itertools
import math
import unittest

from tests.kindwise import by_ties
from tests.things import all_counts, all_turns, all_webs, pieces_by_ties, some_webs
from websbykind.alike import all_alike, alike_many, first_turn, form, own_turns
from websbykind.counts import counts_of, first_web, has_web, is_none_paper, kinds_with, none_paper, webs_with
from websbykind.desk import Desk
from websbykind.forms import all_forms, form_number, with_fewer, with_more
from websbykind.growing import all_codes, all_trees, trees_many
from websbykind.hanging import gathered, hanging_by_ties, hanging_many, hangs, parted, parts
from websbykind.kinds import all_kinds, turns_many
from websbykind.marks import all_marks, are_marks, first_marks, marked_many, marks_many, marks_turn, marks_with
from websbykind.opposites import opposite, opposite_many, opposite_turn
from websbykind.pairs import standing_by_ties, standing_many, stands, webs_by_ties, webs_many
from websbykind.texts import read_web, turn_text
from websbykind.trees import code_from, freed, is_tree, tree_by, tree_code
from websbykind.webs import back, behind, kind_of, turned


def turn_of_kind(kind):
    """Some turn that has the kind."""
    turn = []
    for length in kind:
        start = len(turn)
        turn += list(range(start + 1, start + length)) + [start]
    return tuple(turn)


class TurnsAndWebs(unittest.TestCase):
    def test_the_turns_of_all_kinds_are_all_turns(self):
        for many in range(1, 10):
            self.assertEqual(sum(turns_many(many, kind) for kind in all_kinds(many)), math.factorial(many))

    def test_a_turn_and_the_one_back(self):
        for many in range(1, 7):
            for turn in all_turns(many):
                self.assertEqual(kind_of(many, back(many, turn)), kind_of(many, turn))
                self.assertEqual(behind(many, turn, back(many, turn)), tuple(range(many)))

    def test_one_turn_and_then_another(self):
        for many in range(1, 5):
            for web in all_webs(many):
                for one in all_turns(many):
                    for other in all_turns(many):
                        both = behind(many, one, other)
                        self.assertEqual(turned(turned(web, one), other), turned(web, both))

    def test_one_turn_and_then_another_of_more_places(self):
        for many in [5, 6]:
            for web in all_webs(many)[::101]:
                for one in all_turns(many)[::37]:
                    for other in all_turns(many)[::53]:
                        both = behind(many, one, other)
                        self.assertEqual(turned(turned(web, one), other), turned(web, both))

    def test_turned_back_it_is_itself(self):
        for many in range(1, 6):
            for web in all_webs(many)[::1 if many < 5 else 7]:
                for turn in all_turns(many):
                    self.assertEqual(turned(turned(web, turn), back(many, turn)), web)

    def test_a_web_has_as_many_alike_as_there_are_turns_for_each_of_its_own(self):
        for many in range(1, 6):
            for web in all_webs(many)[::1 if many < 5 else 11]:
                found = [turned(web, turn) for turn in all_turns(many)]
                self.assertEqual(len(set(found)) * found.count(web), math.factorial(many))

    def test_all_turns_together_leave_as_many_webs_as_kinds_for_each_turn(self):
        for many in range(1, 5):
            webs = all_webs(many)
            kinds = {min(turned(web, turn) for turn in all_turns(many)) for web in webs}
            left = sum(turned(web, turn) == web for web in webs for turn in all_turns(many))
            self.assertEqual(left, len(kinds) * math.factorial(many))

    def test_the_same_by_kinds_of_turns(self):
        for many, kinds in [(1, 1), (2, 2), (3, 4), (4, 11), (5, 34), (6, 156)]:
            left = 0
            for kind in all_kinds(many):
                turn = turn_of_kind(kind)
                self.assertEqual(kind_of(many, turn), kind)
                left += turns_many(many, kind) * sum(turned(web, turn) == web for web in all_webs(many))
            self.assertEqual(left, kinds * math.factorial(many))


class WebsAlike(unittest.TestCase):
    def test_own_turns_times_alike_webs_are_all_turns(self):
        for many in range(1, 7):
            for web in some_webs(many):
                self.assertEqual(len(own_turns(web)) * alike_many(web), math.factorial(many))
                self.assertEqual(len(all_alike(web)), alike_many(web))

    def test_a_web_turned_is_alike_with_the_same_form_and_parts(self):
        for many in range(1, 7):
            for web in some_webs(many)[::1 if many < 6 else 4]:
                for turn in all_turns(many)[::{4: 5, 5: 23, 6: 119}.get(many, 1)]:
                    other = turned(web, turn)
                    self.assertEqual(turned(web, first_turn(web, other)), other)
                    self.assertEqual((form(other), parts(other)), (form(web), parts(web)))
                    self.assertIs(hangs(other), hangs(web))
                    self.assertEqual(alike_many(other), alike_many(web))

    def test_as_many_kinds_as_first_forms(self):
        for many in range(1, 6):
            forms = sorted({form(web) for web in all_webs(many)})
            self.assertEqual(len(forms), webs_many(many))
            self.assertEqual(sum(alike_many(web) for web in forms), len(all_webs(many)))
            self.assertEqual([form(web) for web in forms], forms)

    def test_alike_just_where_the_parts_are_the_same(self):
        for many in range(1, 6):
            both = {(form(web), tuple(parts(web))) for web in all_webs(many)}
            self.assertEqual(len({one for one, _ in both}), len(both))
            self.assertEqual(len({other for _, other in both}), len(both))

    def test_own_turns_are_those_by_which_it_stands(self):
        for many in range(1, 6):
            for web in some_webs(many):
                self.assertEqual(own_turns(web), [turn for turn in all_turns(many) if stands(web, turn)])


class WebsThatStand(unittest.TestCase):
    def test_over_all_kinds_of_turns_they_come_to_kinds_times_turns(self):
        for many in range(1, 10):
            standing = sum(turns_many(many, kind) * standing_many(many, kind) for kind in all_kinds(many))
            self.assertEqual(standing, webs_many(many) * math.factorial(many))

    def test_by_ties_too(self):
        for many in range(1, 10):
            together = [0] * (many * (many - 1) // 2 + 1)
            for kind in all_kinds(many):
                for ties, webs in enumerate(standing_by_ties(many, kind)):
                    together[ties] += turns_many(many, kind) * webs
            self.assertEqual(together, [webs * math.factorial(many) for webs in webs_by_ties(many)])

    def test_over_all_turns_of_few_places_gone_through(self):
        for many in range(1, 5):
            standing = sum(stands(web, turn) for web in all_webs(many) for turn in all_turns(many))
            self.assertEqual(standing, webs_many(many) * math.factorial(many))


def gathered_by_ties(most):
    """How many kinds of lots of webs that hang together there are, by places and ties, up to so many places."""
    lots = collections.Counter({(0, 0): 1})
    for places in range(1, most + 1):
        for ties, kinds in enumerate(hanging_by_ties(places)):
            more = collections.Counter()
            for (here, tied), ways in lots.items():
                for taken in range((most - here) // places + 1 if kinds else 1):
                    choices = math.comb(kinds + taken - 1, taken) if kinds else 1
                    more[here + taken * places, tied + taken * ties] += ways * choices
            lots = more
    return lots


class WebsThatHang(unittest.TestCase):
    def test_gathered_they_are_all_kinds(self):
        for most in range(1, 10):
            hanging = [hanging_many(many) for many in range(1, most + 1)]
            webs = [webs_many(many) for many in range(1, most + 1)]
            self.assertEqual(gathered(hanging), webs)
            self.assertEqual(parted(webs), hanging)

    def test_by_ties_too(self):
        lots = gathered_by_ties(9)
        for many in range(1, 10):
            found = [lots[many, ties] for ties in range(many * (many - 1) // 2 + 1)]
            self.assertEqual(found, webs_by_ties(many))

    def test_those_of_few_places_are_those_with_one_part(self):
        for many in range(1, 6):
            forms = {form(web) for web in all_webs(many)}
            hanging = [web for web in forms if parts(web) == [web]]
            self.assertEqual(len(hanging), hanging_many(many))
            self.assertTrue(all(hangs(web) for web in hanging))


class TreesAndCodes(unittest.TestCase):
    def trees(self, many):
        return [web for web in all_webs(many) if len(web[1]) == many - 1 and len(pieces_by_ties(web)) == 1]

    def test_alike_just_where_their_codes_are_the_same(self):
        for many in range(1, 6):
            for web in self.trees(many):
                for other in self.trees(many)[::1 if many < 5 else 5]:
                    self.assertIs(tree_code(web) == tree_code(other), first_turn(web, other) is not None)

    def test_one_code_for_each_form(self):
        for many, wanted in zip(range(1, 7), [1, 1, 1, 2, 3, 6]):
            both = {(form(web), tree_code(web)) for web in self.trees(many)[::1 if many < 6 else 3]}
            self.assertEqual(len(both), wanted)
            self.assertEqual(len({one for one, _ in both}), wanted)
            self.assertEqual(len({code for _, code in both}), wanted)

    def test_the_tree_of_its_own_code_is_alike_with_it(self):
        for many in range(1, 7):
            for web in self.trees(many):
                tree = tree_by(tree_code(web))
                self.assertEqual(turned(web, first_turn(web, tree)), tree)
                self.assertEqual(freed(code_from(web, many - 1)), tree_code(web))

    def test_as_many_trees_as_kinds_that_hang_together_with_one_tie_less_than_places(self):
        for many in range(1, 7):
            self.assertEqual(len({tree_code(web) for web in self.trees(many)}), hanging_by_ties(many)[many - 1])


class CodesAndForms(unittest.TestCase):
    def test_kinds_of_trees_are_as_many_as_listed_and_as_forms_that_are_trees(self):
        for many in range(1, 6):
            trees = [web for web in all_forms(many) if is_tree(web)]
            self.assertEqual(sorted(tree_code(web) for web in trees), all_trees(many))
            self.assertEqual((len(trees), trees_many(many)), (len(all_trees(many)), len(trees)))

    def test_the_trees_of_all_codes_are_all_kinds_of_trees(self):
        for many in range(1, 7):
            forms = {form(tree_by(code)) for code in all_codes(many)}
            self.assertEqual(len(forms), trees_many(many))
            self.assertEqual({form(tree_by(code)) for code in all_trees(many)}, forms)

    def test_trees_are_the_kinds_that_hang_together_with_one_tie_less_than_places(self):
        for many in range(1, 10):
            self.assertEqual(trees_many(many), hanging_by_ties(many)[many - 1])

    def test_forms_by_ties(self):
        for many in range(1, 6):
            forms = all_forms(many)
            self.assertEqual(by_ties(many, forms), webs_by_ties(many))
            self.assertEqual(by_ties(many, [web for web in forms if hangs(web)]), hanging_by_ties(many))
            self.assertEqual(sum(hangs(web) for web in forms), hanging_many(many))
            self.assertEqual([form_number(web) for web in forms], list(range(webs_many(many))))

    def test_one_comes_of_another_by_a_tie_put_in_just_where_that_comes_of_it_by_one_taken_out(self):
        for many in range(1, 6):
            forms = all_forms(many)
            more = {(web, other) for web in forms for other in with_more(web)}
            fewer = {(other, web) for web in forms for other in with_fewer(web)}
            self.assertEqual(more, fewer)
            self.assertEqual({other for _, other in more} | {(many, ())}, set(forms))


class CountsAndForms(unittest.TestCase):
    def test_a_web_just_where_there_is_no_paper(self):
        for many in range(1, 8):
            for counts in all_counts(many):
                papers = [("odd",)] + [("much", first) for first in range(1, many + 1)]
                shown = any(is_none_paper(counts, paper) for paper in papers)
                self.assertEqual((none_paper(counts) is None, has_web(counts)), (not shown, not shown))
                self.assertTrue(not shown or is_none_paper(counts, none_paper(counts)))
                if many < 7:
                    self.assertEqual((webs_with(counts) > 0, first_web(counts) is None), (not shown, shown))

    def test_the_counts_of_a_web_have_one(self):
        for many in range(1, 7):
            for web in some_webs(many):
                self.assertIs(has_web(counts_of(web)), True)
                self.assertEqual(counts_of(first_web(counts_of(web))), counts_of(web))
                self.assertTrue(many == 6 or form(web) in kinds_with(counts_of(web)))

    def test_the_webs_of_all_counts_kinds_are_all_forms(self):
        for many in range(1, 6):
            found = [web for counts in all_counts(many) for web in kinds_with(counts)]
            self.assertEqual(sorted(found), all_forms(many))

    def test_the_webs_of_all_orders_of_all_counts_are_all_webs(self):
        for many in range(1, 7):
            orders = {counts: len(set(itertools.permutations(counts))) for counts in all_counts(many)}
            webs = sum(orders[counts] * webs_with(counts) for counts in all_counts(many))
            self.assertEqual(webs, 2 ** (many * (many - 1) // 2))


class Opposites(unittest.TestCase):
    def test_the_opposite_of_the_opposite_is_the_web(self):
        for many in range(1, 7):
            for web in some_webs(many):
                self.assertEqual(opposite(opposite(web)), web)
                self.assertEqual(len(own_turns(opposite(web))), len(own_turns(web)))

    def test_a_web_that_is_its_opposites_like_has_half_of_all_ties(self):
        alike = 0
        for many in range(1, 6):
            for web in all_webs(many)[::1 if many < 5 else 3]:
                turn = opposite_turn(web)
                self.assertEqual(turn is None, form(web) != form(opposite(web)))
                if turn is not None:
                    alike += 1
                    self.assertEqual(2 * len(web[1]), many * (many - 1) // 2)
                    self.assertEqual(turned(opposite(web), turn), web)
        self.assertGreater(alike, 12)

    def test_counted_as_many_as_there_are(self):
        for many in range(1, 6):
            alike = [web for web in all_forms(many) if opposite_turn(web) is not None]
            self.assertEqual(len(alike), opposite_many(many))

    def test_none_where_half_of_all_ties_is_no_whole_number(self):
        for many in range(1, 10):
            self.assertTrue(many * (many - 1) // 2 % 2 == 0 or opposite_many(many) == 0)

    def test_counts_of_the_opposite_are_what_the_counts_lack(self):
        for many in range(1, 7):
            for web in some_webs(many):
                lacking = tuple(many - 1 - count for count in reversed(counts_of(web)))
                self.assertEqual(counts_of(opposite(web)), lacking)


class WebsAndMarks(unittest.TestCase):
    def test_marks_of_one_sort_are_of_one_kind(self):
        for many in range(1, 7):
            for web in some_webs(many):
                self.assertEqual(marks_many(web, 1), 1)
                self.assertEqual(all_marks(web, 1), [(0,) * many])
                self.assertEqual(marks_with(web, (many, 0, 0, 0)), 1)

    def test_webs_with_marks_of_one_sort_are_all_kinds_of_webs(self):
        for many in range(1, 10):
            self.assertEqual(marked_many(many, 1), webs_many(many))

    def test_kinds_of_webs_with_marks_are_the_kinds_of_marks_of_all_forms(self):
        for many in range(1, 6):
            for sorts in range(1, 5):
                kinds = sum(marks_many(web, sorts) for web in all_forms(many))
                self.assertEqual(marked_many(many, sorts), kinds)

    def test_marks_are_alike_just_where_the_first_ones_are_the_same(self):
        for web in all_forms(4) + all_forms(5)[::6]:
            choices = list(itertools.product(range(4), repeat=web[0]))
            for one in choices[::31]:
                for other in choices[5::57] + [first_marks(web, one)]:
                    same = first_marks(web, one) == first_marks(web, other)
                    self.assertEqual(marks_turn(web, one, other) is not None, same)

    def test_each_kind_is_listed_once(self):
        for web in all_forms(4) + all_forms(5)[::6]:
            for sorts in range(1, 4):
                found = all_marks(web, sorts)
                self.assertEqual(len(found), marks_many(web, sorts))
                self.assertEqual([first_marks(web, marks) for marks in found], found)
                self.assertTrue(all(are_marks(web, marks) for marks in found))


class Texts(unittest.TestCase):
    def test_the_text_of_the_first_turn_leads_a_desk_there(self):
        for many in range(2, 7):
            for web in some_webs(many)[::1 if many < 5 else 9]:
                desk = Desk()
                desk.say(f"places {many}")
                for tie in web[1]:
                    desk.say(f"tie {tie[0]} {tie[1]}")
                desk.say("turn " + turn_text(many, first_turn(web, form(web))))
                self.assertEqual(read_web(desk.say("web")), form(web))


if __name__ == "__main__":
    unittest.main()
