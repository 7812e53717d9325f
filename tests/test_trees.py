"""[51] trees and their middles, [52] codes, [53] the tree of a code, and the code freed."""

import itertools
import random
import unittest

from tests.things import Refusals, all_pairs, all_webs, anything, no_webs
from tests.treewise import (
    all_codes, all_trees, code_by_leaves, code_by_parts, drawn_ties, middles_by_leaves, ties_by_depth)
from websbykind.errors import NoCode, NoPlace, NoTree, NoWeb
from websbykind.trees import code_from, freed, is_code, is_tree, middles, tree_by, tree_code
from websbykind.webs import is_web

NO_TREES = [
    (2, ()), (3, ((0, 1),)), (3, ((0, 1), (0, 2), (1, 2))), (4, ((0, 1), (0, 2), (1, 2))), (4, ((0, 1), (2, 3))),
    (4, ((0, 1), (0, 3), (1, 2), (2, 3))), (6, ((0, 1), (0, 2), (1, 2), (3, 4), (4, 5))), (6, ()),
    (6, ((0, 1), (0, 2), (0, 3), (1, 2), (4, 5))), (5, ((0, 1), (0, 2), (0, 3), (0, 4), (1, 2))),
    (6, tuple(all_pairs(6))),
]

NO_PLACES = [-1, 10 ** 30 - 1, True, False, None, "", "0", "a", [], [0], (), (0,), {}, {0: 0}]

ROW_OF_FIVE = (5, ((0, 1), (1, 2), (2, 3), (3, 4)))
ROW_OF_SIX = (6, ((0, 3), (1, 2), (1, 4), (3, 5), (4, 5)))
STAR_OF_SIX = (6, ((0, 4), (1, 4), (2, 4), (3, 4), (4, 5)))


class Trees(Refusals, unittest.TestCase):
    def test_by_hand(self):
        for tree in [(1, ()), (2, ((0, 1),)), (3, ((0, 1), (0, 2))), ROW_OF_FIVE, ROW_OF_SIX, STAR_OF_SIX]:
            self.answers_truth(True, is_tree, tree)
        for web in NO_TREES:
            self.answers_truth(False, is_tree, web)

    def test_every_web(self):
        for many, trees in zip(range(1, 7), [1, 1, 3, 16, 125, 1296]):
            self.assertEqual(len(all_trees(many)), trees)
            found = [web for web in all_webs(many) if many < 6 or 4 <= len(web[1]) <= 6]
            self.assertEqual([web for web in found if is_tree(web) is True], all_trees(many))
            self.assertEqual({is_tree(web) for web in found} - {True, False}, set())

    def test_one_tie_more_or_fewer(self):
        for many in range(2, 7):
            for tree in all_trees(many)[::7]:
                for tie in tree[1]:
                    self.answers_truth(False, is_tree, (many, tuple(other for other in tree[1] if other != tie)))
                for pair in all_pairs(many):
                    if pair not in tree[1]:
                        self.answers_truth(False, is_tree, (many, tuple(sorted(tree[1] + (pair,)))))

    def test_no_web(self):
        for web in no_webs():
            self.refused(NoWeb, is_tree, web)


class Middles(Refusals, unittest.TestCase):
    def test_by_hand(self):
        self.assertEqual(middles((1, ())), (0,))
        self.assertEqual(middles((2, ((0, 1),))), (0, 1))
        self.assertEqual(middles((3, ((0, 2), (1, 2)))), (2,))
        self.assertEqual(middles(ROW_OF_FIVE), (2,))
        self.assertEqual(middles(ROW_OF_SIX), (4, 5))
        self.assertEqual(middles(STAR_OF_SIX), (4,))
        # The middle is not the place with most ties.
        self.assertEqual(middles((6, ((0, 1), (0, 2), (0, 3), (3, 4), (4, 5)))), (3,))

    def test_every_tree(self):
        for many in range(1, 7):
            for tree in all_trees(many):
                found = middles(tree)
                self.assertIs(found.__class__, tuple)
                self.assertEqual(found, middles_by_leaves(*tree))
                self.assertIn(len(found), [1, 2])
                self.assertTrue(len(found) == 1 or found in tree[1])

    def test_no_web_goes_ahead_of_no_tree(self):
        for web in no_webs():
            self.refused(NoWeb, middles, web)

    def test_no_tree(self):
        for web in NO_TREES:
            self.refused(NoTree, middles, web)


NO_CODES = [
    "", "(", ")", ")(", "(()", "())", "((", "))", "()()", "(())()", "()(())", "(()))(", "())(()", "(()(()))",
    "((()())(()))" + ")", "(()((())))", "((())(()()))", "((()(())))", "()" * 20, "( )", " ()", "() ", "()\n", "\n()",
    "[]", "{}", "(a)", "a", "0", "(0)", "((]))", "(()[])", "()x", "x()", "(" * 40, ")" * 40, "(" * 20, ")" * 20,
    "(" * 21 + ")" * 21, "(" + "()" * 20 + ")", "(" * 20 + ")" * 19, "(" * 19 + ")" * 20, "(" * 20 + ")" * 21,
    "(" * 50000 + ")" * 50000, "()" * 50000, "x" * 100000,
]


def no_codes():
    # What is told as anything has a code in it: that one is left out.
    things = [thing for thing in anything() if thing != "()"] + [["()"], ("()",), {"()": "()"}, ["(", ")"], ("(", ")")]
    return NO_CODES + things + [0, 1, 2, ["("], b"()", [["()"]]]


class Codes(Refusals, unittest.TestCase):
    def test_known_many(self):
        self.assertEqual([len(all_codes(many)) for many in range(1, 10)], [1, 1, 2, 4, 9, 20, 48, 115, 286])

    def test_every_code_of_few_places(self):
        for many in range(1, 10):
            for code in all_codes(many):
                self.answers_truth(True, is_code, code)

    def test_just_the_codes_among_all_texts_of_brackets(self):
        for length in range(15):
            wanted = all_codes(length // 2) if length and length % 2 == 0 else []
            texts = ["".join(signs) for signs in itertools.product("()", repeat=length)]
            self.assertEqual([text for text in texts if is_code(text) is True], wanted)
            self.assertEqual({is_code(text) for text in texts} - {True, False}, set())

    def test_up_to_forty_signs_and_longer_ones(self):
        self.answers_truth(True, is_code, "(" * 20 + ")" * 20)
        self.answers_truth(True, is_code, "(" + "()" * 19 + ")")
        self.answers_truth(True, is_code, "(" + "(())" * 9 + "()" + ")")
        self.answers_truth(False, is_code, "(" * 21 + ")" * 21)
        self.answers_truth(False, is_code, "(" + "()" * 20 + ")")
        self.answers_truth(False, is_code, "(" + "(())" * 10 + ")")
        for many in [10, 15, 19, 20]:
            drawing = random.Random(many)
            for _ in range(40):
                code = code_by_parts(many, drawn_ties(drawing, many), drawing.randrange(many))
                self.answers_truth(True, is_code, code)
                for text in [code[1:], code[:-1], code + ")", "(" + code, code + "()", code[::-1]]:
                    self.answers_truth(False, is_code, text)

    def test_no_code_with_any_other_sign(self):
        for code in all_codes(1) + all_codes(2) + all_codes(4) + ["(" * 20 + ")" * 20]:
            for at in range(len(code)):
                for sign in ["[", "]", "{", "}", " ", "\n", "a", "0", "", code[at] * 2, "'", "*"]:
                    self.answers_truth(False, is_code, code[:at] + sign + code[at + 1:])

    def test_no_code_with_two_branches_out_of_order(self):
        for one in all_codes(3) + all_codes(4):
            for other in all_codes(2) + all_codes(4):
                self.answers_truth(one <= other, is_code, "(" + one + other + ")")
                self.answers_truth(one <= other, is_code, "((" + one + other + "))")

    def test_what_is_no_code(self):
        for thing in no_codes():
            self.answers_truth(False, is_code, thing)


class CodeFrom(Refusals, unittest.TestCase):
    def test_by_hand(self):
        self.assertEqual(code_from((1, ()), 0), "()")
        self.assertEqual(code_from((2, ((0, 1),)), 1), "(())")
        row = (3, ((0, 1), (1, 2)))
        self.assertEqual([code_from(row, place) for place in range(3)], ["((()))", "(()())", "((()))"])
        self.assertEqual(code_from(ROW_OF_FIVE, 1), "(((()))())")
        self.assertEqual(code_from(STAR_OF_SIX, 4), "(()()()()())")
        self.assertEqual(code_from(STAR_OF_SIX, 0), "((()()()()))")
        # The branches stand by their codes, not by their places.
        self.assertEqual(code_from((4, ((0, 1), (0, 2), (2, 3))), 0), "((())())")

    def test_each_place_of_every_tree(self):
        for many in range(1, 7):
            for tree in all_trees(many)[::1 if many < 6 else 5]:
                for place in range(many):
                    found = code_from(tree, place)
                    self.assertEqual(found, code_by_parts(*tree, place))
                    self.assertIs(is_code(found), True)

    def test_no_web_goes_ahead(self):
        for web in no_webs():
            for place in [0, 9, None, [], "0"]:
                self.refused(NoWeb, code_from, web, place)

    def test_no_tree_goes_ahead_of_no_place(self):
        for web in NO_TREES:
            for place in [0, 1] + NO_PLACES:
                self.refused(NoTree, code_from, web, place)

    def test_no_place(self):
        for tree in [(1, ()), (2, ((0, 1),)), ROW_OF_FIVE, ROW_OF_SIX, STAR_OF_SIX]:
            for place in NO_PLACES + [tree[0], tree[0] + 1, -tree[0]]:
                self.refused(NoPlace, code_from, tree, place)


class TreeCode(Refusals, unittest.TestCase):
    def test_by_hand(self):
        self.assertEqual(tree_code((1, ())), "()")
        self.assertEqual(tree_code((2, ((0, 1),))), "(())")
        self.assertEqual(tree_code((3, ((0, 2), (1, 2)))), "(()())")
        self.assertEqual(tree_code(ROW_OF_FIVE), "((())(()))")
        self.assertEqual(tree_code(ROW_OF_SIX), "(((()))(()))")
        self.assertEqual(tree_code(STAR_OF_SIX), "(()()()()())")
        # Two middles with unlike codes: of 0 and of 1, the lesser one.
        tree = (5, ((0, 1), (0, 2), (0, 3), (1, 4)))
        self.assertEqual([code_from(tree, place) for place in middles(tree)], ["((())()())", "((()())())"])
        self.assertEqual(tree_code(tree), "((()())())")

    def test_every_tree(self):
        for many in range(1, 7):
            for tree in all_trees(many):
                self.assertEqual(tree_code(tree), code_by_leaves(*tree))

    def test_no_web_goes_ahead_of_no_tree(self):
        for web in no_webs():
            self.refused(NoWeb, tree_code, web)

    def test_no_tree(self):
        for web in NO_TREES:
            self.refused(NoTree, tree_code, web)


class TreeBy(Refusals, unittest.TestCase):
    def test_by_hand(self):
        self.assertEqual(tree_by("()"), (1, ()))
        self.assertEqual(tree_by("(())"), (2, ((0, 1),)))
        self.assertEqual(tree_by("((()))"), (3, ((0, 1), (1, 2))))
        self.assertEqual(tree_by("(()())"), (3, ((0, 1), (0, 2))))
        self.assertEqual(tree_by("((())())"), (4, ((0, 1), (0, 3), (1, 2))))
        self.assertEqual(tree_by("((()())())"), (5, ((0, 1), (0, 4), (1, 2), (1, 3))))
        self.assertEqual(tree_by("((())(()))"), (5, ((0, 1), (0, 3), (1, 2), (3, 4))))

    def test_every_code_of_up_to_six_places(self):
        for many in range(1, 7):
            for code in all_codes(many):
                found = tree_by(code)
                self.assertEqual(found, (many, ties_by_depth(code)))
                self.assertIs(is_web(found), True)
                self.assertEqual(code_from(found, 0), code)

    def test_too_great(self):
        codes = all_codes(7) + all_codes(8) + ["(" * many + ")" * many for many in range(9, 21)]
        for code in codes + ["(" + "()" * 19 + ")"]:
            self.too_great(len(code) // 2, 6, tree_by, code)

    def test_no_code_goes_ahead(self):
        for code in no_codes():
            self.refused(NoCode, tree_by, code)


class Freed(Refusals, unittest.TestCase):
    def test_by_hand(self):
        self.assertEqual(freed("()"), "()")
        self.assertEqual(freed("(())"), "(())")
        self.assertEqual(freed("((()))"), "(()())")
        self.assertEqual(freed("((()()()()))"), "(()()()()())")
        self.assertEqual(freed("((())()())"), "((()())())")
        self.assertEqual(freed("(((())))"), "((())())")
        self.assertEqual(freed("(((((((())))))))"), "((((())))((())))")
        self.assertEqual(freed("(" + "()" * 19 + ")"), "(" + "()" * 19 + ")")
        self.assertEqual(freed("(" * 20 + ")" * 20), "(" + "(" * 10 + ")" * 10 + "(" * 9 + ")" * 9 + ")")

    def test_every_code_of_up_to_nine_places(self):
        for many in range(1, 10):
            for code in all_codes(many):
                found = freed(code)
                self.assertEqual(found, code_by_leaves(many, ties_by_depth(code)))
                self.assertIs(is_code(found), True)
                self.assertEqual(freed(found), found)

    def test_one_of_each_tree(self):
        found = [len({freed(code) for code in all_codes(many)}) for many in range(1, 10)]
        self.assertEqual(found, [1, 1, 1, 2, 3, 6, 11, 23, 47])

    def test_drawn_codes_of_ten_to_twenty_places(self):
        for many in range(10, 21):
            drawing = random.Random(many)
            for _ in range(12):
                ties = drawn_ties(drawing, many)
                wanted = code_by_leaves(many, ties)
                for place in range(0, many, 3):
                    self.assertEqual(freed(code_by_parts(many, ties, place)), wanted)

    def test_of_a_tree_of_few_places_its_own_code(self):
        for many in range(1, 7):
            for code in all_codes(many):
                self.assertEqual(freed(code), tree_code(tree_by(code)))

    def test_no_code(self):
        for code in no_codes():
            self.refused(NoCode, freed, code)


if __name__ == "__main__":
    unittest.main()
