"""[54] how many codes and kinds of trees there are, [55] all of few places."""

import time
import unittest

from tests.kindwise import one_of_each_kind
from tests.things import Refusals, no_numbers, pieces_by_ties
from tests.treewise import all_codes as codes_by_rows
from tests.treewise import code_by_leaves, ties_by_depth
from websbykind.errors import NoNumber
from websbykind.growing import all_codes, all_trees, codes_many, trees_many
from websbykind.trees import freed, is_code, tree_code

CODES_MANY = [1, 1, 2, 4, 9, 20, 48, 115, 286, 719, 1842, 4766, 12486, 32973, 87811, 235381, 634847, 1721159, 4688676,
              12826228]

TREES_MANY = [1, 1, 1, 2, 3, 6, 11, 23, 47, 106, 235, 551, 1301, 3159, 7741, 19320, 48629, 123867, 317955, 823065]


def codes_by_sums(most):
    """How many codes there are, by n times codes(n + 1) = sum of c(k) codes(n + 1 - k), c(k) the sum of d codes(d)."""
    codes = {1: 1}
    for places in range(1, most):
        ahead = 0
        for step in range(1, places + 1):
            weight = sum(part * codes[part] for part in range(1, step + 1) if step % part == 0)
            ahead += weight * codes[places + 1 - step]
        codes[places + 1] = ahead // places
    return list(codes.values())


def trees_by_leaves(many):
    """The codes of all trees of so many places, each from its middles found by taking ends away."""
    return sorted({code_by_leaves(many, ties_by_depth(code)) for code in codes_by_rows(many)})


class Many(Refusals, unittest.TestCase):
    def test_known(self):
        self.assertEqual([codes_many(many) for many in range(1, 21)], CODES_MANY)
        self.assertEqual([trees_many(many) for many in range(1, 21)], TREES_MANY)

    def test_whole_numbers(self):
        for many in range(1, 21):
            self.assertIs(codes_many(many).__class__, int)
            self.assertIs(trees_many(many).__class__, int)

    def test_codes_reckoned_otherwise(self):
        self.assertEqual([codes_many(many) for many in range(1, 21)], codes_by_sums(20))

    def test_trees_as_codes_less_half_of_tuples_with_half_of_halves(self):
        codes = [0] + codes_by_sums(20)
        for many in range(1, 21):
            tuples = sum(codes[one] * codes[many - one] for one in range(1, many))
            halves = codes[many // 2] if many % 2 == 0 else 0
            self.assertEqual(2 * trees_many(many), 2 * codes[many] - tuples + halves)

    def test_all_of_few_places_listed(self):
        for many in range(1, 11):
            self.assertEqual(codes_many(many), len(codes_by_rows(many)))
            self.assertEqual(trees_many(many), len(trees_by_leaves(many)))

    def test_soon(self):
        start = time.perf_counter()
        for many in range(1, 21):
            codes_many(many)
            trees_many(many)
        self.assertLess(time.perf_counter() - start, 5)

    def test_no_number(self):
        for ask in [codes_many, trees_many]:
            for many in no_numbers(20):
                self.refused(NoNumber, ask, many)


class Listed(Refusals, unittest.TestCase):
    def test_by_hand(self):
        self.assertEqual(all_codes(1), ["()"])
        self.assertEqual(all_codes(2), ["(())"])
        self.assertEqual(all_codes(3), ["((()))", "(()())"])
        self.assertEqual(all_codes(4), ["(((())))", "((()()))", "((())())", "(()()())"])
        self.assertEqual(all_trees(1), ["()"])
        self.assertEqual(all_trees(2), ["(())"])
        self.assertEqual(all_trees(3), ["(()())"])
        self.assertEqual(all_trees(4), ["((())())", "(()()())"])
        self.assertEqual(all_trees(5), ["((()())())", "((())(()))", "(()()()())"])

    def test_all_codes(self):
        for many in range(1, 9):
            found = all_codes(many)
            self.assertIs(found.__class__, list)
            self.assertEqual(found, codes_by_rows(many))
            self.assertEqual(found, sorted(set(found)))
            self.assertEqual(len(found), codes_many(many))
            self.assertEqual({len(code) for code in found}, {2 * many})
            self.assertTrue(all(is_code(code) for code in found))

    def test_all_trees(self):
        for many in range(1, 9):
            found = all_trees(many)
            self.assertIs(found.__class__, list)
            self.assertEqual(found, trees_by_leaves(many))
            self.assertEqual(found, sorted(set(found)))
            self.assertEqual(len(found), trees_many(many))
            self.assertEqual([freed(code) for code in found], found)
            self.assertEqual({freed(code) for code in all_codes(many)}, set(found))

    def test_all_trees_are_those_among_all_kinds_of_webs(self):
        for many in range(1, 7):
            trees = [web for web in one_of_each_kind(many)
                     if len(web[1]) == many - 1 and len(pieces_by_ties(web)) == 1]
            self.assertEqual(all_trees(many), sorted(tree_code(web) for web in trees))

    def test_no_number(self):
        for ask in [all_codes, all_trees]:
            for many in no_numbers(8):
                self.refused(NoNumber, ask, many)


if __name__ == "__main__":
    unittest.main()
