"""[21] webs alike."""

import unittest

from tests.things import Refusals, all_pairs, all_turns, all_webs, no_webs, some_webs
from websbykind.alike import all_alike, alike_many, first_turn, form, own_turns
from websbykind.errors import NoWeb
from websbykind.webs import turned

ROW = (4, ((0, 1), (1, 2), (2, 3)))
STAR = (4, ((0, 1), (0, 2), (0, 3)))
SIX_ROUND = (6, ((0, 1), (0, 5), (1, 2), (2, 3), (3, 4), (4, 5)))
TWO_THREES = (6, ((0, 1), (0, 2), (1, 2), (3, 4), (3, 5), (4, 5)))
WITHOUT_OWN = (6, ((0, 1), (1, 2), (1, 5), (2, 3), (2, 4), (3, 4), (4, 5)))


def plain(many):
    return tuple(range(many))


def led_by_all(web):
    """Each web alike with the web, with all turns that lead to it, in order: by all turns gone through."""
    found = {}
    for turn in all_turns(web[0]):
        found.setdefault(turned(web, turn), []).append(turn)
    return found


def edge_webs():
    """Of each number of places the webs with no tie and with all; and some of six with few own turns and with many."""
    found = [(many, ties) for many in range(1, 7) for ties in [(), tuple(all_pairs(many))]]
    return found + [SIX_ROUND, TWO_THREES, WITHOUT_OWN, turned(WITHOUT_OWN, (3, 5, 0, 1, 4, 2))]


class AgainstAllTurns(unittest.TestCase):
    def check(self, web):
        found = led_by_all(web)
        self.assertEqual(own_turns(web), found[web])
        self.assertEqual(all_alike(web), sorted(found))
        self.assertEqual(form(web), min(found))
        self.assertEqual(alike_many(web), len(found))
        self.assertIs(alike_many(web).__class__, int)
        self.assertIs(own_turns(web).__class__, list)
        self.assertIs(all_alike(web).__class__, list)
        for other, turns in list(found.items())[::1 if web[0] < 6 else 97]:
            self.assertEqual(first_turn(web, other), turns[0])
            self.assertEqual(form(other), min(found))

    def test_webs_of_one_to_six_places(self):
        for many in range(1, 7):
            for web in some_webs(many):
                self.check(web)

    def test_no_tie_all_ties_few_and_many_own_turns(self):
        for web in edge_webs():
            self.check(web)

    def test_every_two_webs_of_few_places(self):
        for many in range(1, 5):
            for web in all_webs(many):
                found = led_by_all(web)
                for other in all_webs(many):
                    self.assertEqual(first_turn(web, other), found.get(other, [None])[0], (web, other))


class FirstTurn(Refusals, unittest.TestCase):
    def test_by_hand(self):
        self.assertEqual(first_turn((1, ()), (1, ())), (0,))
        self.assertEqual(first_turn((3, ((0, 1),)), (3, ((1, 2),))), (1, 2, 0))
        self.assertEqual(first_turn((3, ((1, 2),)), (3, ((0, 1),))), (2, 0, 1))
        self.assertEqual(first_turn(ROW, (4, ((0, 2), (0, 3), (1, 3)))), (1, 3, 0, 2))
        self.assertEqual(first_turn(SIX_ROUND, SIX_ROUND), plain(6))

    def test_it_leads_the_first_to_the_second(self):
        # Two turns lead there, and the way back is another one.
        self.assertEqual(first_turn((4, ((0, 1), (1, 2))), (4, ((0, 2), (0, 3)))), (2, 0, 3, 1))
        self.assertEqual(first_turn((4, ((0, 2), (0, 3))), (4, ((0, 1), (1, 2)))), (1, 3, 0, 2))

    def test_none_of_unlike_places(self):
        for one in range(1, 7):
            for other in range(1, 7):
                if one != other:
                    self.assertIsNone(first_turn((one, ()), (other, ())))
        self.assertIsNone(first_turn((3, ((0, 1),)), (4, ((0, 1),))))
        self.assertIsNone(first_turn((4, ((0, 1),)), (3, ((0, 1),))))

    def test_none_of_unlike_ties(self):
        for many in range(2, 7):
            pairs = tuple(all_pairs(many))
            self.assertIsNone(first_turn((many, ()), (many, pairs[:1])))
            self.assertIsNone(first_turn((many, pairs), (many, pairs[1:])))
            self.assertIsNone(first_turn((many, pairs[:1]), (many, ())))

    def test_none_of_like_ties_or_counts_but_unlike_kinds(self):
        for one, other in [(ROW, STAR), (SIX_ROUND, TWO_THREES), ((4, ((0, 1), (2, 3))), (4, ((0, 1), (1, 2))))]:
            self.assertIsNone(first_turn(one, other))
            self.assertIsNone(first_turn(other, one))
            self.assertNotEqual(form(one), form(other))

    def test_no_web(self):
        for web in no_webs():
            self.refused(NoWeb, first_turn, web, (3, ()))
            self.refused(NoWeb, first_turn, (3, ()), web)
            self.refused(NoWeb, first_turn, web, web)
            self.refused(NoWeb, first_turn, web, None)

    def test_the_first_web_goes_ahead(self):
        self.first_goes_ahead(first_turn, (None, []), (None, (1, ())), ((1, ()), []))


class OwnTurnsAndForms(Refusals, unittest.TestCase):
    def test_own_turns_by_hand(self):
        self.assertEqual(own_turns((1, ())), [(0,)])
        self.assertEqual(own_turns((2, ((0, 1),))), [(0, 1), (1, 0)])
        self.assertEqual(own_turns((3, ((0, 2),))), [(0, 1, 2), (2, 1, 0)])
        self.assertEqual(own_turns(ROW), [(0, 1, 2, 3), (3, 2, 1, 0)])
        self.assertEqual(own_turns(WITHOUT_OWN), [plain(6)])
        for many in range(1, 7):
            self.assertEqual(own_turns((many, ())), all_turns(many))

    def test_all_alike_and_form_by_hand(self):
        self.assertEqual(all_alike((1, ())), [(1, ())])
        self.assertEqual(all_alike((3, ((1, 2),))), [(3, ((0, 1),)), (3, ((0, 2),)), (3, ((1, 2),))])
        self.assertEqual(all_alike((4, ((0, 3), (1, 2)))), [
            (4, ((0, 1), (2, 3))), (4, ((0, 2), (1, 3))), (4, ((0, 3), (1, 2)))])
        self.assertEqual(form((1, ())), (1, ()))
        self.assertEqual(form((3, ((1, 2),))), (3, ((0, 1),)))
        self.assertEqual(form(ROW), (4, ((0, 1), (0, 2), (1, 3))))
        self.assertEqual(form((4, ((0, 3), (1, 3), (2, 3)))), STAR)

    def test_alike_many_by_hand(self):
        self.assertEqual([alike_many((many, ())) for many in range(1, 7)], [1] * 6)
        self.assertEqual([alike_many((many, ((0, 1),))) for many in range(2, 7)], [1, 3, 6, 10, 15])
        self.assertEqual([alike_many(web) for web in [ROW, STAR, SIX_ROUND, TWO_THREES]], [12, 4, 60, 10])
        self.assertEqual(alike_many(WITHOUT_OWN), 720)

    def test_no_web(self):
        for ask in [own_turns, all_alike, form, alike_many]:
            for web in no_webs():
                self.refused(NoWeb, ask, web)


if __name__ == "__main__":
    unittest.main()
