import unittest

from websbykind import errors

WITH_A_TEXT = ["NoWeb", "NoNumber", "NoTurn", "NoKind", "NoPlace", "NoTie", "NoNumbers", "NoTree", "NoCode",
               "NoCounts", "NoMarks", "NoText", "NoLine", "NoDeed"]


class Errors(unittest.TestCase):
    def test_any_refusal_is_a_value_error(self):
        self.assertEqual(errors.KindError.__bases__, (ValueError,))

    def test_each_stands_straight_under_kind_error(self):
        for name in WITH_A_TEXT + ["TooGreat"]:
            with self.subTest(name):
                self.assertEqual(getattr(errors, name).__name__, name)
                self.assertEqual(getattr(errors, name).__bases__, (errors.KindError,))

    def test_none_is_another_one(self):
        classes = [getattr(errors, name) for name in WITH_A_TEXT + ["TooGreat"]]
        for one in classes:
            self.assertEqual([other for other in classes if issubclass(one, other)], [one])

    def test_made_with_a_text(self):
        for name in WITH_A_TEXT:
            with self.subTest(name):
                with self.assertRaises(errors.KindError) as caught:
                    raise getattr(errors, name)("its words")
                self.assertEqual(str(caught.exception), "its words")

    def test_too_great_has_its_fields_in_their_order(self):
        with self.assertRaises(errors.TooGreat) as caught:
            raise errors.TooGreat(7, 6)
        self.assertEqual((caught.exception.many, caught.exception.most), (7, 6))


if __name__ == "__main__":
    unittest.main()
