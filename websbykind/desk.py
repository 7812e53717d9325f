"""A desk: a web that is changed and asked line by line."""

from websbykind.alike import alike_many, form, own_turns
from websbykind.errors import NoDeed, NoLine, NoPlace, NoTie
from websbykind.forms import form_number
from websbykind.opposites import opposite, opposite_turn
from websbykind.texts import FIGURES, read_turn, turn_text, web_text
from websbykind.webs import MOST_PLACES, tie_of, turned, with_tie, without_tie

TURN = "turn "


def web_told(web):
    """The answer to the question web."""
    return web_text(web)


def own_told(web):
    """The answer to the question own."""
    return str(len(own_turns(web)))


def alike_told(web):
    """The answer to the question alike."""
    return str(alike_many(web))


def number_told(web):
    """The answer to the question number."""
    return str(form_number(web))


def even_told(web):
    """The answer to the question even."""
    turn = opposite_turn(web)
    return "none" if turn is None else turn_text(web[0], turn)


QUESTIONS = {"web": web_told, "own": own_told, "alike": alike_told, "number": number_told, "even": even_told}


class Desk:
    """A web, (1, ()) at first, and the way back over the deeds that stand."""

    def __init__(self):
        self.web = (1, ())
        # The web as it was ahead of each deed that stands.
        self.earlier = []

    def say(self, line):
        """The answer to a line."""
        if not isinstance(line, str):
            raise NoLine("no line")
        if line in QUESTIONS:
            question = QUESTIONS[line]
            return question(self.web)
        if line == "back":
            self.undo()
        else:
            self.put(web_by(line, self.web))
        return "ok"

    def put(self, web):
        """Another web in the web's stead, by a deed."""
        self.earlier.append(self.web)
        self.web = web

    def undo(self):
        """The last deed that stands is undone."""
        if not self.earlier:
            raise NoDeed("no deed stands")
        self.web = self.earlier.pop()


def web_by(line, web):
    """The web that a deed's line makes of a web."""
    if line == "first":
        return form(web)
    if line == "opposite":
        return opposite(web)
    if line.startswith(TURN):
        return turned(web, read_turn(web[0], line[len(TURN):]))
    return web_by_numbers(line.split(" "), web)


def web_by_numbers(words, web):
    """The web that the words of a deed with numbers make of a web."""
    deed, *figures = words
    if not all([is_figure(figure) for figure in figures]):
        raise NoLine("no line")
    numbers = [int(figure) for figure in figures]
    if deed == "places" and len(numbers) == 1 and 1 <= numbers[0] <= MOST_PLACES:
        return (numbers[0], ())
    if deed == "tie" and len(numbers) == 2:
        return web_by_tie(web, numbers[0], numbers[1])
    raise NoLine("no line")


def is_figure(word):
    """Whether a word is a single figure."""
    return len(word) == 1 and word in FIGURES


def web_by_tie(web, a, b):
    """The web with two places tied, or no more tied where they were."""
    many, ties = web
    if a >= many or b >= many:
        raise NoPlace(f"no place of {many}")
    if a == b:
        raise NoTie("a place is not tied to itself")
    tie = tie_of(a, b)
    return without_tie(web, tie) if tie in ties else with_tie(web, tie)
