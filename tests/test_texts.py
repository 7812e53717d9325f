"""[101] webs and turns written as texts, and read back."""

import unittest

from tests.things import (
    OTHER_FIGURES, Refusals, all_pairs, all_turns, all_webs, anything, no_numbers, no_turns_at_all, no_webs)
from websbykind.errors import NoNumber, NoText, NoTurn, NoWeb
from websbykind.texts import read_turn, read_web, turn_text, web_text

NO_WEB_TEXTS = [
    "", " ", ":", "4", "4 ", " 4:", "4: ", "4 :", "4:  ", "4:\n", "\n4:", "4:\t", "0:", "7:", "8:", "9:", "10:", "04:",
    "+4:", "-4:", "4.0:", "4::", "4;", "4-", "a:", "four:", "(4, ())", "44:", "4:4:", "4: 4:", "1: 0-0", "1: 0-1",
    "4:0-1", "4:  0-1", "4: 0-1 ", " 4: 0-1", "4 : 0-1", "4: 0-1\n", "4:\n0-1", "4:\t0-1", "4: 0-1  2-3", "4: 0-12-3",
    "4: 0-1,2-3", "4: 0-1, 2-3", "4: 0 1", "4: 0- 1", "4: 0 -1", "4: 0 - 1", "4: 01", "4: 0--1", "4: 0_1", "4: 0:1",
    "4: -0-1", "4: +0-1", "4: 0-+1", "4: 0--1", "4: 00-1", "4: 0-01", "4: 00-01", "4: 0-1-", "4: 0-1-2", "4: -1",
    "4: 0-", "4: -", "4: 0", "4: 0-1 2", "4: 0-1 2-", "4: 0-1 -3", "4: a-b", "4: 0-x", "4: x-1", "4: (0, 1)", "4: 0-1;",
    "4: 2-3 0-1", "4: 0-2 0-1", "4: 0-1 0-3 0-2", "4: 0-1 0-1", "4: 0-1 2-3 2-3", "4: 0-1 2-3 0-1", "4: 1-0", "4: 3-2",
    "4: 0-1 3-2", "4: 0-0", "4: 3-3", "4: 0-4", "4: 4-5", "4: 0-1 2-4", "4: 0-9", "6: 5-6", "6: 0-6", "6: 0-10",
    "7: 0-1", "4: 0-1 0-2 0-3 1-2 1-3 2-3 2-4", "4: 0-1x", "x4: 0-1", "4x: 0-1", "4:x 0-1", "4: x0-1", "4: 0-x1",
    "'4: 0-1'", "4: 0-1" * 2, "4: 0-1" + " 2-3" * 20000, "4:" + " " * 50000, "0" * 100000, " 0-1", "0-1", "0-1 2-3",
    "4-0: 1", "4: 0\u20131", "4:\u00a00-1", "\ufeff4: 0-1", "4: 0-1\x00", "4\uff1a 0-1",
]

NO_TURN_TEXTS = [
    "", " ", "(", ")", ")(", "( )", " ()", "() ", "()()", "()\n", "\n()", "(())", "(0)", "(0)(1)", "(3)", "()(0 1)",
    "(0 1)()", "(0 1)(2)", "(2)(0 1)", "(1 0)", "(2 1)", "(1 2 0)", "(2 0 1)", "(1 0)(2 3)", "(0 1)(3 2)", "(2 3)(0 1)",
    "(1 2)(0 3)", "(0 0)", "(0 1 0)", "(0 1 1)", "(0 1)(0 1)", "(0 1)(1 2)", "(0 1)(0 2)", "(0 1 2)(2 3)",
    "(0 1 2 3 0)", "(0  1)", "( 0 1)", "(0 1 )", " (0 1)", "(0 1) ", "(0 1) (2 3)", "(0 1)\n", "\n(0 1)", "(0\n1)",
    "(0\t1)", "(0,1)", "(0, 1)", "(01)", "(0-1)", "0 1", "(0 1", "0 1)", "((0 1))", "((0 1)", "(0 1))", "[0 1]",
    "{0 1}", "(0 1](2 3)", "(0 1)2 3)", "(0 1(2 3)", "(0 1))(2 3)", "(0 1)((2 3)", "(0 1)x(2 3)", "(0 1)x", "x(0 1)",
    "(00 1)", "(0 01)", "(01 2)", "(1 23)", "(+0 1)", "(0 +1)", "(-0 1)", "(0 -1)", "(0 1.0)", "(a b)", "(0 x)",
    "(0 4)", "(4 5)", "(0 9)", "(0 10)", "(0 1 2 3 4)", "(0 1)(2 4)", "(3 -1)", "(-1 0)", "(0, 1, 2, 3)",
    "(1, 0, 2, 3)", "1 0 2 3", "(0 1)(2 3)(4 5)", "(0 1)" * 20000, "(" * 50000, ")(" * 50000,
    "(0 1" + " 2" * 50000 + ")", "0" * 100000, "(0\u00a01)", "(0 1)\x00", "\ufeff()", "\uff08\uff09",
]


def not_texts():
    """What is no text at all."""
    return [thing for thing in anything() if not isinstance(thing, str)] + [
        ["4:"], ("4:",), {"4:": "4:"}, ["4", ":"], ["()"], ("()",), {"()": "()"}, ["(", ")"], (4, ()), (0, 1, 2, 3),
        4, 0]


def near(text, signs):
    """All texts that come of a text where one sign is taken out, put in, put in another's stead, or two are swapped."""
    found = {text[:at] + text[at + 1:] for at in range(len(text))}
    for sign in signs:
        found |= {text[:at] + sign + text[at:] for at in range(len(text) + 1)}
        found |= {text[:at] + sign + text[at + 1:] for at in range(len(text))}
    found |= {text[:at] + text[at + 1] + text[at] + text[at + 2:] for at in range(len(text) - 1)}
    return found


def text_by_ties(web):
    """A web's text, tie by tie."""
    text = str(web[0]) + ":"
    for tie in web[1]:
        text += " " + str(tie[0]) + "-" + str(tie[1])
    return text


def text_by_walking(turn):
    """A turn's text: from each name not yet walked over on, as long as it leads to others."""
    text = ""
    left = list(range(len(turn)))
    while left:
        names = [left.pop(0)]
        while turn[names[-1]] in left:
            left.remove(turn[names[-1]])
            names.append(turn[names[-1]])
        if len(names) > 1:
            text += "(" + " ".join(map(str, names)) + ")"
    return text or "()"


class WebText(Refusals, unittest.TestCase):
    def test_by_hand(self):
        self.assertEqual(web_text((4, ((0, 1), (2, 3)))), "4: 0-1 2-3")
        self.assertEqual(web_text((1, ())), "1:")
        self.assertEqual(web_text((6, ())), "6:")
        self.assertEqual(web_text((2, ((0, 1),))), "2: 0-1")
        self.assertEqual(web_text((6, tuple(all_pairs(6)))),
                         "6: 0-1 0-2 0-3 0-4 0-5 1-2 1-3 1-4 1-5 2-3 2-4 2-5 3-4 3-5 4-5")

    def test_webs_of_one_to_six_places_and_back(self):
        for many in range(1, 7):
            for web in all_webs(many)[::1 if many < 6 else 3]:
                text = web_text(web)
                self.assertEqual(text, text_by_ties(web))
                self.assertEqual(read_web(text), web)

    def test_no_web(self):
        for web in no_webs():
            self.refused(NoWeb, web_text, web)


class ReadWeb(Refusals, unittest.TestCase):
    def test_by_hand(self):
        self.assertEqual(read_web("4: 0-1 2-3"), (4, ((0, 1), (2, 3))))
        self.assertEqual(read_web("1:"), (1, ()))
        self.assertEqual(read_web("6: 0-5 4-5"), (6, ((0, 5), (4, 5))))

    def test_what_is_not_written_so(self):
        for text in NO_WEB_TEXTS:
            self.refused(NoText, read_web, text)

    def test_what_is_no_text(self):
        # Among texts of anything one is a web's.
        for thing in not_texts() + [thing for thing in anything() if isinstance(thing, str) and thing != "3:"]:
            self.refused(NoText, read_web, thing)

    def test_figures_of_another_script(self):
        for figure in OTHER_FIGURES:
            for text in [f"{figure}:", f"{figure}: 0-1", f"4: {figure}-3", f"4: 0-{figure}", f"4: 0-1 2-{figure}"]:
                self.refused(NoText, read_web, text)

    def test_texts_near_to_those_of_webs(self):
        webs = [web for many in range(1, 7) for web in all_webs(many) if many < 5 or len(web[1]) < 5]
        texts = {text_by_ties(web): web for web in webs}
        for text in ["1:", "2: 0-1", "3: 0-2 1-2", "4: 0-1 2-3", "4: 0-3 1-2 1-3", "6: 0-5 1-4 2-3"]:
            for other in near(text, "0123456 :-+,()\nx"):
                if other in texts:
                    self.assertEqual(read_web(other), texts[other])
                else:
                    self.refused(NoText, read_web, other)


class TurnText(Refusals, unittest.TestCase):
    def test_by_hand(self):
        self.assertEqual(turn_text(1, (0,)), "()")
        self.assertEqual(turn_text(6, (0, 1, 2, 3, 4, 5)), "()")
        self.assertEqual(turn_text(4, (1, 0, 3, 2)), "(0 1)(2 3)")
        self.assertEqual(turn_text(4, (0, 3, 1, 2)), "(1 3 2)")
        self.assertEqual(turn_text(6, (5, 2, 1, 3, 0, 4)), "(0 5 4)(1 2)")

    def test_all_turns_and_back(self):
        for many in range(1, 7):
            for turn in all_turns(many):
                text = turn_text(many, turn)
                self.assertEqual(text, text_by_walking(turn))
                self.assertEqual(read_turn(many, text), turn)

    def test_no_number_goes_ahead(self):
        for many in no_numbers(6):
            for turn in [(0,), (0, 1), None, []]:
                self.refused(NoNumber, turn_text, many, turn)

    def test_no_turn(self):
        for many in range(1, 7):
            for turn in no_turns_at_all(many):
                self.refused(NoTurn, turn_text, many, turn)


class ReadTurn(Refusals, unittest.TestCase):
    def test_by_hand(self):
        self.assertEqual(read_turn(1, "()"), (0,))
        self.assertEqual(read_turn(6, "()"), (0, 1, 2, 3, 4, 5))
        self.assertEqual(read_turn(4, "(0 1)(2 3)"), (1, 0, 3, 2))
        self.assertEqual(read_turn(5, "(0 1)(2 3)"), (1, 0, 3, 2, 4))
        self.assertEqual(read_turn(6, "(0 5 4)(1 2)"), (5, 2, 1, 3, 0, 4))

    def test_what_is_not_written_so(self):
        for text in NO_TURN_TEXTS:
            self.refused(NoText, read_turn, 4, text)

    def test_names_that_are_none_of_so_many(self):
        for many in range(1, 6):
            self.refused(NoText, read_turn, many, f"(0 {many})")
            self.refused(NoText, read_turn, many, f"({many - 1} {many})")
            self.assertEqual(read_turn(many + 1, f"({many - 1} {many})")[-2:], (many, many - 1))
        for text in ["(0 6)", "(5 6)", "(0 7)", "(0 10)"]:
            self.refused(NoText, read_turn, 6, text)

    def test_what_is_no_text(self):
        for many in range(1, 7):
            # Among texts of anything one is a turn's.
            for thing in not_texts() + [thing for thing in anything() if isinstance(thing, str) and thing != "()"]:
                self.refused(NoText, read_turn, many, thing)

    def test_figures_of_another_script(self):
        for figure in OTHER_FIGURES:
            for text in [f"(0 {figure})", f"({figure} 0)", f"(0 1)(2 {figure})", figure]:
                self.refused(NoText, read_turn, 4, text)

    def test_texts_near_to_those_of_turns(self):
        for many in [1, 2, 4, 6]:
            texts = {text_by_walking(turn): turn for turn in all_turns(many)}
            for text in ["()", "(0 1)", "(1 3 2)", "(0 1)(2 3)", "(0 5 4)(1 2)", "(0 4)(1 3)(2 5)"]:
                for other in near(text, "0123456 :-+,()\nx"):
                    if other in texts:
                        self.assertEqual(read_turn(many, other), texts[other])
                    else:
                        self.refused(NoText, read_turn, many, other)

    def test_no_number_goes_ahead(self):
        for many in no_numbers(6):
            for text in ["()", "(0 1)", "", None, []]:
                self.refused(NoNumber, read_turn, many, text)


if __name__ == "__main__":
    unittest.main()
