"""Webs and turns written as texts, and read back."""

from websbykind.errors import NoText
from websbykind.webs import MOST_PLACES, is_turn, is_web, must_be_web, rounds_of
from websbykind.whole import must_be_within

FIGURES = "0123456789"


def web_text(web):
    """The text of the web."""
    must_be_web(web)
    many, ties = web
    return f"{many}:" + "".join([f" {a}-{b}" for a, b in ties])


def turn_text(many, turn):
    """The text of a turn of so many names."""
    rounds = [names for names in rounds_of(many, turn) if len(names) > 1]
    if not rounds:
        return "()"
    return "".join(["(" + " ".join([str(name) for name in names]) + ")" for names in rounds])


def read_web(text):
    """The web that is written so."""
    web = web_guessed(text) if isinstance(text, str) else None
    # Whatever else stood in the text is missing where the web is written anew.
    if not is_web(web) or web_text(web) != text:
        raise NoText("no text of a web")
    return web


def web_guessed(text):
    """What would be the web if the text were one's: of other texts whatever comes."""
    first, *others = text.split(" ")
    return (FIGURES.find(first[:1]), tuple([(FIGURES.find(word[:1]), FIGURES.find(word[-1:])) for word in others]))


def read_turn(many, text):
    """The turn of so many names that is written so."""
    must_be_within(many, 1, MOST_PLACES)
    turn = turn_guessed(many, text) if isinstance(text, str) else None
    if not is_turn(many, turn) or turn_text(many, turn) != text:
        raise NoText(f"no text of a turn of {many}")
    return turn


def turn_guessed(many, text):
    """What would be the turn if the text were one's: of other texts whatever comes."""
    leads = {name: name for name in range(many)}
    for words in text[1:-1].split(")("):
        names = [FIGURES.find(word) for word in words.split(" ")]
        for ahead, name in zip(names, names[1:] + names[:1]):
            leads[ahead] = name
    return tuple([leads[name] for name in range(many)])
