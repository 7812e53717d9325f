"""[71] all forms in order and their numbers, [72] the forms that come by a tie put in, or taken out."""

import unittest

from tests.kindwise import least_turned, one_of_each_kind
from tests.things import Refusals, all_pairs, all_webs, no_numbers, no_webs
from websbykind.alike import all_alike, form
from websbykind.errors import NoNumber, NoWeb
from websbykind.forms import all_forms, form_at, form_number, with_fewer, with_more
from websbykind.pairs import webs_many

FORMS_OF_FOUR = [
    (4, ()),
    (4, ((0, 1),)),
    (4, ((0, 1), (0, 2))),
    (4, ((0, 1), (0, 2), (0, 3))),
    (4, ((0, 1), (0, 2), (0, 3), (1, 2))),
    (4, ((0, 1), (0, 2), (0, 3), (1, 2), (1, 3))),
    (4, ((0, 1), (0, 2), (0, 3), (1, 2), (1, 3), (2, 3))),
    (4, ((0, 1), (0, 2), (1, 2))),
    (4, ((0, 1), (0, 2), (1, 3))),
    (4, ((0, 1), (0, 2), (1, 3), (2, 3))),
    (4, ((0, 1), (2, 3))),
]

WEBS_OF_SIX = [(6, ()), (6, ((0, 1),)), (6, ((2, 3), (4, 5))), (6, tuple(all_pairs(6)))]

NO_FORM_NUMBERS = [-1, -2, -34, 10 ** 30 - 1, -10 ** 30 + 1, True, False, None, "", "0", "1", [], [0], (), (0,),
                   ((0,),), {}, {0: 0}]


def forms_gone_through(many):
    return sorted(least_turned(web) for web in one_of_each_kind(many))


def more_gone_through(web):
    """The forms with one tie more, each of all pairs tried."""
    many, ties = web
    more = [tuple(sorted(set(ties) | {pair})) for pair in all_pairs(many)]
    return sorted({least_turned((many, found)) for found in more if len(found) == len(ties) + 1})


def fewer_gone_through(web):
    """The forms with one tie fewer, each of all pairs tried."""
    many, ties = web
    fewer = [tuple(sorted(set(ties) - {pair})) for pair in all_pairs(many)]
    return sorted({least_turned((many, found)) for found in fewer if len(found) == len(ties) - 1})


class AllForms(Refusals, unittest.TestCase):
    def test_by_hand(self):
        self.assertEqual(all_forms(1), [(1, ())])
        self.assertEqual(all_forms(2), [(2, ()), (2, ((0, 1),))])
        self.assertEqual(all_forms(3), [
            (3, ()), (3, ((0, 1),)), (3, ((0, 1), (0, 2))), (3, ((0, 1), (0, 2), (1, 2)))])
        self.assertEqual(all_forms(4), FORMS_OF_FOUR)

    def test_all_webs_gone_through(self):
        for many in range(1, 6):
            found = all_forms(many)
            self.assertIs(found.__class__, list)
            self.assertEqual(found, forms_gone_through(many))
            self.assertEqual(found, sorted(set(found)))
            self.assertEqual([form(web) for web in found], found)
            self.assertEqual(len(found), webs_many(many))

    def test_no_number(self):
        for many in no_numbers(5):
            self.refused(NoNumber, all_forms, many)


class FormNumber(Refusals, unittest.TestCase):
    def test_by_hand(self):
        self.assertEqual(form_number((1, ())), 0)
        self.assertEqual(form_number((2, ((0, 1),))), 1)
        self.assertEqual(form_number((3, ((1, 2),))), 1)
        self.assertEqual(form_number((4, ((0, 3), (1, 2)))), 10)
        self.assertEqual(form_number((4, ((0, 3), (1, 3), (2, 3)))), 3)
        self.assertEqual(form_number((5, ((1, 4), (2, 3)))), 33)

    def test_each_form_and_webs_alike_with_it(self):
        for many in range(1, 6):
            for number, web in enumerate(forms_gone_through(many)):
                self.assertEqual(form_number(web), number)
                self.assertIs(form_number(web).__class__, int)
                for other in all_alike(web)[1::5 if many < 5 else 29]:
                    self.assertEqual(form_number(other), number)

    def test_too_great(self):
        for web in WEBS_OF_SIX:
            self.too_great(6, 5, form_number, web)

    def test_no_web_goes_ahead(self):
        for web in no_webs() + [(6, ((1, 0),)), (6, [])]:
            self.refused(NoWeb, form_number, web)


class FormAt(Refusals, unittest.TestCase):
    def test_each_number(self):
        for many in range(1, 6):
            for number, web in enumerate(forms_gone_through(many)):
                self.assertEqual(form_at(many, number), web)

    def test_no_number_of_places(self):
        for many in no_numbers(5):
            for number in [0, 1, -1, None]:
                self.refused(NoNumber, form_at, many, number)

    def test_no_number_of_a_form(self):
        for many in range(1, 6):
            for number in NO_FORM_NUMBERS + [webs_many(many), webs_many(many) + 1, -webs_many(many)]:
                self.refused(NoNumber, form_at, many, number)


class OneTieMoreOrFewer(Refusals, unittest.TestCase):
    def test_by_hand(self):
        self.assertEqual(with_more((3, ((1, 2),))), [(3, ((0, 1), (0, 2)))])
        self.assertEqual(with_more((4, ((1, 2),))), [(4, ((0, 1), (0, 2))), (4, ((0, 1), (2, 3)))])
        self.assertEqual(with_more((4, ((0, 3), (1, 3)))), [
            (4, ((0, 1), (0, 2), (0, 3))), (4, ((0, 1), (0, 2), (1, 2))), (4, ((0, 1), (0, 2), (1, 3)))])
        self.assertEqual(with_fewer((3, ((1, 2),))), [(3, ())])
        self.assertEqual(with_fewer((4, ((0, 3), (1, 2), (2, 3)))), [(4, ((0, 1), (0, 2))), (4, ((0, 1), (2, 3)))])

    def test_every_form_of_up_to_five_places(self):
        for many in range(1, 6):
            for web in forms_gone_through(many):
                self.check(web)

    def test_other_webs_than_forms(self):
        for many in range(2, 6):
            for web in all_webs(many)[::1 if many < 5 else 13]:
                self.check(web)

    def check(self, web):
        for found, wanted in [(with_more(web), more_gone_through(web)), (with_fewer(web), fewer_gone_through(web))]:
            self.assertIs(found.__class__, list)
            self.assertEqual(found, wanted)
            self.assertEqual(found, sorted(set(found)))
            self.assertTrue(all(form(other) == other for other in found))

    def test_none_where_all_are_tied_or_none(self):
        for many in range(1, 6):
            self.assertEqual(with_more((many, tuple(all_pairs(many)))), [])
            self.assertEqual(with_fewer((many, ())), [])

    def test_too_great(self):
        for web in WEBS_OF_SIX:
            self.too_great(6, 5, with_more, web)
            self.too_great(6, 5, with_fewer, web)

    def test_no_web_goes_ahead(self):
        for ask in [with_more, with_fewer]:
            for web in no_webs() + [(6, ((1, 0),)), (6, [])]:
                self.refused(NoWeb, ask, web)


if __name__ == "__main__":
    unittest.main()
