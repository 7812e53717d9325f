"""Whole numbers, as every part of the program asks for them."""

from websbykind.errors import NoNumber, TooGreat


def is_whole(thing):
    """Whether a thing is a whole number."""
    # A truth is an int for Python, but no whole number here.
    return isinstance(thing, int) and not isinstance(thing, bool)


def is_within(thing, least, most):
    """Whether a thing is a whole number from least to most."""
    return is_whole(thing) and least <= thing <= most


def must_be_within(thing, least, most):
    """Refuse, with NoNumber, what is no whole number from least to most."""
    if not is_within(thing, least, most):
        raise NoNumber(f"no whole number from {least} to {most}")


def must_be_few(many, most):
    """Refuse, with TooGreat, more than most."""
    if many > most:
        raise TooGreat(many, most)


def times_itself(number, often):
    """The number, so often taken by itself; 1 where it is taken not once."""
    product = 1
    for step in range(often):
        product *= number
    return product
