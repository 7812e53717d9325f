"""[102] a desk: its lines, its answers and its refusals."""

import random
import unittest

from tests.things import OTHER_FIGURES, Refusals, all_pairs, anything, some_webs
from websbykind.alike import alike_many, form, own_turns
from websbykind.desk import Desk
from websbykind.errors import KindError, NoDeed, NoLine, NoPlace, NoText, NoTie, TooGreat
from websbykind.forms import form_number
from websbykind.opposites import opposite, opposite_turn
from websbykind.texts import read_turn, turn_text, web_text
from websbykind.webs import turned

QUESTIONS = ["web", "own", "alike", "number", "even"]

NO_LINES = [
    "", " ", "  ", "\n", "x", "help", "web ", " web", "web\n", "\nweb", "web web", "Web", "WEB", "webs", "we",
    "web own", "own ", " own", "Own", "own 1", "alike ", " alike", "Alike", "alike 1", "number ", " number", "Number",
    "number 1", "even ", " even", "Even", "EVEN", "even 1", "first ", " first", "First", "FIRST", "first 1",
    "first first", "opposite ", " opposite", "Opposite", "opposite 1", "back ", " back", "Back", "BACK", "back 1",
    "back back", "places", "places ", "places  ", "places  3", " places 3", "places 3 ", "places 3\n", "places\t3",
    "places3", "Places 3", "PLACES 3", "place 3", "places 0", "places 7", "places 8", "places 9", "places 10",
    "places 03", "places 33", "places +3", "places -3", "places 3.0", "places three", "places a", "places 3 3",
    "places 3 4", "places 3:", "places :", "tie", "tie ", "tie  ", "tie 0", "tie 0 ", "tie  0 1", "tie 0  1",
    "tie 0 1 ", " tie 0 1", "tie 0 1\n", "tie 0\t1", "tie 01", "tie0 1", "Tie 0 1", "TIE 0 1", "ties 0 1", "tie 0 1 2",
    "tie 0 1 0 2", "tie 00 1", "tie 0 01", "tie 0 10", "tie 10 0", "tie 12 34", "tie +0 1", "tie 0 -1", "tie -1 0",
    "tie a b", "tie 0 b", "tie a 1", "tie 0-1", "tie 0,1", "tie 0 1.0", "tie (0 1)", "tie : 0", "tie 0 /", "turn",
    "turn\n", "turn\t()", "Turn ()", "TURN ()", " turn ()", "turn()", "turn(0 1)", "turns ()", "turns (0 1)", "0 1",
    "(0 1)", "()", "3", "3:", "ok", "none", "places 3 tie 0 1", "places 3\ntie 0 1", "web;own", "say", "web" * 20000,
    " " * 50000, "tie 0 " + "1" * 50000,
]

NO_TURN_TEXTS = [
    "", " ", "x", "(0 1", "0 1)", "(1 0)", "(0 0)", "(0  1)", " ()", "() ", "()\n", "(0)", "(0 1) ", " (0 1)",
    "(0 1)(2)", "(0 3)", "(0 1)(1 2)", "()()", "turn ()", "(0 \u0661)", "web", "0", "(0,1)", "(0 9)",
]


def desk_with(web):
    """A desk that was told to have a web, place for place and tie for tie."""
    desk = Desk()
    desk.say(f"places {web[0]}")
    for a, b in web[1]:
        desk.say(f"tie {a} {b}")
    return desk


def lines_of_all(web):
    """What a desk with a web answers to all questions, by what the functions of other modules tell."""
    turn = opposite_turn(web)
    return {
        "web": web_text(web), "own": str(len(own_turns(web))), "alike": str(alike_many(web)),
        "number": (TooGreat, 6, 5) if web[0] > 5 else str(form_number(web)),
        "even": "none" if turn is None else turn_text(web[0], turn),
    }


def answered(desk, line):
    """What a desk answers to a line: a text, or the refusal's class with its fields."""
    try:
        return desk.say(line)
    except TooGreat as refusal:
        return (TooGreat, refusal.many, refusal.most)
    except KindError as refusal:
        return type(refusal)


class Asked:
    """For a TestCase: that a desk has a web, by all that can be asked of it."""

    def has(self, desk, web):
        for line, wanted in lines_of_all(web).items():
            found = answered(desk, line)
            self.assertEqual(found, wanted, line)

    def says(self, desk, line, wanted="ok"):
        found = desk.say(line)
        self.assertIs(found.__class__, str)
        self.assertEqual(found, wanted, line)

    def refuses(self, desk, line, wanted):
        """That a line is refused with just one class, and that the desk answers what it answered ahead."""
        before = [answered(desk, question) for question in QUESTIONS]
        self.refused(wanted, desk.say, line)
        self.assertEqual([answered(desk, question) for question in QUESTIONS], before)


class Deeds(Asked, Refusals, unittest.TestCase):
    def test_at_first(self):
        desk = Desk()
        for line, wanted in [("web", "1:"), ("own", "1"), ("alike", "1"), ("number", "0"), ("even", "()")]:
            self.says(desk, line, wanted)
        self.refuses(desk, "back", NoDeed)

    def test_by_hand(self):
        desk = Desk()
        for line, wanted in [
                ("places 4", "ok"), ("web", "4:"), ("own", "24"), ("alike", "1"), ("number", "0"), ("even", "none"),
                ("tie 0 1", "ok"), ("tie 3 2", "ok"), ("web", "4: 0-1 2-3"), ("own", "8"), ("alike", "3"),
                ("number", "10"), ("even", "none"), ("tie 1 2", "ok"), ("web", "4: 0-1 1-2 2-3"), ("number", "8"),
                ("even", "(0 1 3 2)"), ("turn (0 1 2 3)", "ok"), ("web", "4: 0-3 1-2 2-3"), ("first", "ok"),
                ("web", "4: 0-1 0-2 1-3"), ("opposite", "ok"), ("web", "4: 0-3 1-2 2-3"), ("tie 2 1", "ok"),
                ("web", "4: 0-3 2-3"), ("back", "ok"), ("back", "ok"), ("web", "4: 0-1 0-2 1-3"), ("back", "ok"),
                ("web", "4: 0-3 1-2 2-3"), ("back", "ok"), ("web", "4: 0-1 1-2 2-3"), ("back", "ok"), ("back", "ok"),
                ("back", "ok"), ("web", "4:"), ("back", "ok"), ("web", "1:")]:
            self.says(desk, line, wanted)
        self.refuses(desk, "back", NoDeed)

    def test_places(self):
        for many in range(1, 7):
            desk = desk_with((3, ((0, 1), (1, 2))))
            self.says(desk, f"places {many}")
            self.has(desk, (many, ()))

    def test_each_two_places_tied_and_no_more(self):
        for many in range(1, 7):
            for web in [(many, ()), (many, tuple(all_pairs(many))), some_webs(many)[len(some_webs(many)) // 2]]:
                desk = desk_with(web)
                for a in range(many):
                    for b in range(many):
                        if a != b:
                            pair = tuple(sorted((a, b)))
                            self.says(desk, f"tie {a} {b}")
                            self.says(desk, "web", web_text((many, tuple(sorted(set(web[1]) ^ {pair})))))
                            self.says(desk, f"tie {b} {a}")
                            self.says(desk, "web", web_text(web))

    def test_no_place_and_then_no_tie(self):
        for many in range(1, 7):
            desk = Desk()
            desk.say(f"places {many}")
            for a in range(10):
                for b in range(10):
                    if a >= many or b >= many:
                        self.refused(NoPlace, desk.say, f"tie {a} {b}")
                    elif a == b:
                        self.refused(NoTie, desk.say, f"tie {a} {b}")
            self.has(desk, (many, ()))

    def test_turn(self):
        web = (5, ((0, 1), (1, 2), (1, 4)))
        for text in ["()", "(0 1)", "(0 4)(1 2)", "(0 1 2 3 4)", "(1 3 2)"]:
            desk = desk_with(web)
            self.says(desk, "turn " + text)
            self.has(desk, turned(web, read_turn(5, text)))
            self.says(desk, "back")
            self.has(desk, web)

    def test_turn_with_what_is_no_text_of_one(self):
        for many in range(1, 4):
            desk = Desk()
            desk.say(f"places {many}")
            desk.say("opposite")
            for text in NO_TURN_TEXTS:
                self.refuses(desk, "turn " + text, NoText)
            self.says(desk, "back")
            self.says(desk, "web", f"{many}:")

    def test_turn_of_fewer_places_than_its_text(self):
        desk = desk_with((3, ((0, 1),)))
        self.refuses(desk, "turn (2 3)", NoText)
        self.says(desk, "turn (1 2)")
        self.says(desk, "web", "3: 0-2")

    def test_turn_with_nothing_behind_its_blank_and_without_the_blank(self):
        desk = desk_with((3, ((0, 1),)))
        self.refuses(desk, "turn ", NoText)
        self.refuses(desk, "turn", NoLine)
        self.refuses(desk, "turn  ", NoText)
        self.refuses(desk, "turn  ()", NoText)
        self.refuses(desk, "turn () ", NoText)

    def test_first_and_opposite(self):
        for many in range(1, 7):
            for web in some_webs(many)[::1 if many < 5 else 17]:
                desk = desk_with(web)
                self.says(desk, "opposite")
                self.says(desk, "web", web_text(opposite(web)))
                self.says(desk, "first")
                self.says(desk, "web", web_text(form(opposite(web))))
                self.says(desk, "back")
                self.says(desk, "opposite")
                self.says(desk, "web", web_text(web))
                self.says(desk, "first")
                self.says(desk, "web", web_text(form(web)))


class Back(Asked, Refusals, unittest.TestCase):
    def test_behind_several_deeds(self):
        desk = Desk()
        webs = []
        for line in ["places 5", "tie 0 4", "tie 1 2", "turn (0 3)", "first", "opposite", "tie 0 1", "places 2",
                     "opposite"]:
            webs.append(desk.say("web"))
            self.says(desk, line)
        for web in reversed(webs):
            self.says(desk, "back")
            self.says(desk, "web", web)
        self.refuses(desk, "back", NoDeed)
        self.refuses(desk, "back", NoDeed)

    def test_a_deed_that_leaves_the_web_as_it_was_is_a_deed(self):
        for line in ["places 1", "turn ()", "first", "opposite"]:
            desk = Desk()
            self.says(desk, line)
            self.says(desk, "web", "1:")
            self.says(desk, "back")
            self.says(desk, "web", "1:")
            self.refuses(desk, "back", NoDeed)

    def test_behind_a_deed_that_was_refused(self):
        desk = Desk()
        self.says(desk, "places 3")
        self.says(desk, "tie 0 1")
        for line, wanted in [("tie 0 3", NoPlace), ("tie 1 1", NoTie), ("turn (1 0)", NoText), ("turn ", NoText),
                             ("places 7", NoLine), ("tie 0", NoLine), ("turn", NoLine), ("x", NoLine), (None, NoLine)]:
            self.refuses(desk, line, wanted)
        self.says(desk, "back")
        self.says(desk, "web", "3:")
        self.refuses(desk, "tie 2 2", NoTie)
        self.says(desk, "back")
        self.says(desk, "web", "1:")
        self.refuses(desk, "back", NoDeed)

    def test_behind_questions(self):
        desk = Desk()
        self.says(desk, "places 6")
        self.says(desk, "tie 4 5")
        for line in QUESTIONS:
            answered(desk, line)
        self.says(desk, "back")
        self.says(desk, "web", "6:")
        for line in QUESTIONS:
            answered(desk, line)
        self.says(desk, "back")
        self.says(desk, "web", "1:")

    def test_questions_alone_are_no_deeds(self):
        desk = Desk()
        for line in QUESTIONS:
            desk.say(line)
        self.refuses(desk, "back", NoDeed)

    def test_twice_and_then_another_deed(self):
        desk = Desk()
        for line in ["places 3", "tie 0 1", "tie 1 2", "back", "back"]:
            self.says(desk, line)
        self.says(desk, "web", "3:")
        for line in ["tie 0 2", "back"]:
            self.says(desk, line)
        self.says(desk, "web", "3:")
        self.says(desk, "back")
        self.says(desk, "web", "1:")
        self.refuses(desk, "back", NoDeed)
        self.says(desk, "places 2")
        self.says(desk, "back")
        self.says(desk, "web", "1:")

    def test_behind_a_back_that_was_refused(self):
        desk = Desk()
        self.refuses(desk, "back", NoDeed)
        self.says(desk, "places 2")
        self.says(desk, "back")
        self.says(desk, "web", "1:")
        self.refuses(desk, "back", NoDeed)


class Questions(Asked, Refusals, unittest.TestCase):
    def test_webs_of_one_to_six_places(self):
        for many in range(1, 7):
            for web in some_webs(many)[::1 if many < 5 else 11]:
                self.has(desk_with(web), web)

    def test_even(self):
        self.says(desk_with((5, ((0, 1), (0, 4), (1, 2), (2, 3), (3, 4)))), "even", "(1 2 4 3)")
        self.says(desk_with((2, ())), "even", "none")

    def test_number_of_six_places_is_refused(self):
        desk = Desk()
        desk.say("places 6")
        self.too_great(6, 5, desk.say, "number")
        desk.say("tie 0 5")
        self.too_great(6, 5, desk.say, "number")
        self.says(desk, "back")
        self.says(desk, "web", "6:")


class NoLines(Asked, Refusals, unittest.TestCase):
    def desks(self):
        return [Desk(), desk_with((4, ((0, 1), (1, 2))))]

    def test_no_lines(self):
        for desk in self.desks():
            before = desk.say("web")
            for line in NO_LINES:
                self.refused(NoLine, desk.say, line)
            self.says(desk, "web", before)

    def test_figures_of_another_script(self):
        for desk in self.desks():
            for figure in OTHER_FIGURES:
                for line in [f"places {figure}", f"tie {figure} 0", f"tie 0 {figure}", figure]:
                    self.refuses(desk, line, NoLine)

    def test_anything_else(self):
        for desk in self.desks():
            # Among texts of anything one is a line.
            for thing in anything() + [["web"], ("web",), {"web": 1}, [["back"]], 1, 0, ("tie", 0, 1), ["places", 3]]:
                if thing != "web":
                    self.refuses(desk, thing, NoLine)

    def test_every_single_sign_behind_a_word(self):
        desk = desk_with((4, ((0, 1),)))
        for word in QUESTIONS + ["first", "opposite", "back", "places 3", "tie 0 2"]:
            for sign in [chr(code) for code in range(32, 127)] + ["\n", "\t", "\r", "\x00", "\u00a0"]:
                for line in [word + sign, sign + word]:
                    self.refused(NoLine, desk.say, line)
        self.has(desk, (4, ((0, 1),)))

    def test_every_single_sign_as_a_number(self):
        for sign in [chr(code) for code in range(1, 1500)]:
            desk = desk_with((6, ()))
            if sign in "123456":
                self.says(desk, "places " + sign)
            else:
                self.refused(NoLine, desk.say, "places " + sign)
            desk = desk_with((6, ()))
            if sign in "12345":
                self.says(desk, "tie 0 " + sign)
                self.says(desk, "web", "6: 0-" + sign)
            else:
                wanted = NoTie if sign == "0" else NoPlace if sign in "6789" else NoLine
                self.refused(wanted, desk.say, "tie 0 " + sign)

    def test_refusals_one_behind_the_other(self):
        desk = Desk()
        for line, wanted in [("back", NoDeed), ("tie 0 0", NoTie), ("tie 0 1", NoPlace), ("tie 9 9", NoPlace),
                             ("turn (0 1)", NoText), ("turn", NoLine), ("", NoLine), (None, NoLine), ("back", NoDeed)]:
            self.refuses(desk, line, wanted)
        self.has(desk, (1, ()))


class DesksBesideOneAnother(Asked, Refusals, unittest.TestCase):
    def test_they_know_nothing_of_each_other(self):
        one, other = Desk(), Desk()
        self.says(one, "places 3")
        self.has(other, (1, ()))
        self.refuses(other, "back", NoDeed)
        self.says(other, "places 5")
        self.says(other, "tie 1 4")
        self.says(one, "opposite")
        self.has(one, (3, ((0, 1), (0, 2), (1, 2))))
        self.has(other, (5, ((1, 4),)))
        self.says(one, "back")
        self.says(one, "back")
        self.refuses(one, "back", NoDeed)
        self.has(other, (5, ((1, 4),)))
        self.says(other, "back")
        self.has(other, (5, ()))
        self.has(one, (1, ()))
        self.has(Desk(), (1, ()))


def drawn_line(drawing, many):
    """Some line, more often one that is a deed."""
    figures = [drawing.randrange(many + 1) for _ in range(2)]
    names = list(range(many))
    drawing.shuffle(names)
    return drawing.choice([
        f"places {figures[0]}", f"tie {figures[0]} {figures[1]}", f"tie {figures[1]} {figures[0]}", "first", "opposite",
        "back", "back", "turn " + turn_text(many, tuple(names)), f"turn ({figures[0]} {figures[1]})", "x"])


def web_then(web, line):
    """The web that a deed's line makes of a web, or the class of its refusal: by the words of 102."""
    many, ties = web
    word, _, rest = line.partition(" ")
    if line in ["first", "opposite"]:
        return form(web) if line == "first" else opposite(web)
    if word == "turn":
        texts = {turn_text(many, turn): turn for turn in own_turns((many, ()))}
        return turned(web, texts[rest]) if rest in texts else NoText
    if word == "places" and rest in [str(number) for number in range(1, 7)]:
        return (int(rest), ())
    if word == "tie":
        a, b = sorted(int(figure) for figure in rest.split())
        if b >= many:
            return NoPlace
        return NoTie if a == b else (many, tuple(sorted(set(ties) ^ {(a, b)})))
    return NoLine


class DrawnLines(Asked, Refusals, unittest.TestCase):
    def test_long_talks(self):
        for seed in range(12):
            drawing = random.Random(seed)
            desk = Desk()
            webs = [(1, ())]
            for _ in range(60):
                line = drawn_line(drawing, webs[-1][0])
                if line == "back":
                    wanted = "ok" if webs[1:] else NoDeed
                    webs = webs[:-1] or webs
                else:
                    then = web_then(webs[-1], line)
                    wanted = "ok" if isinstance(then, tuple) else then
                    webs += [then] if isinstance(then, tuple) else []
                self.assertEqual(answered(desk, line), wanted, line)
                self.assertEqual(desk.say("web"), web_text(webs[-1]))
            self.has(desk, webs[-1])


if __name__ == "__main__":
    unittest.main()
