"""Every refusal of the program, each straight under KindError."""


class KindError(ValueError):
    """Any refusal."""


class NoWeb(KindError):
    """What was handed in as a web is none."""


class NoNumber(KindError):
    """What was handed in as a number is none, or out of its bounds."""


class NoTurn(KindError):
    """What was handed in as a turn of so many is none."""


class NoKind(KindError):
    """What was handed in as a kind of turns of so many is none."""


class NoPlace(KindError):
    """What was handed in as a place is none."""


class NoTie(KindError):
    """A place is not tied to itself."""


class NoNumbers(KindError):
    """What was handed in as numbers is none."""


class NoTree(KindError):
    """The web is no tree."""


class NoCode(KindError):
    """What was handed in as a code is none."""


class NoCounts(KindError):
    """What was handed in as counts is none."""


class NoMarks(KindError):
    """What was handed in as marks of a web is none."""


class NoText(KindError):
    """What was handed in as a text of a web or a turn is not written so."""


class NoLine(KindError):
    """What was told to a desk is no line."""


class NoDeed(KindError):
    """No deed stands that could be undone."""


class TooGreat(KindError):
    """There are many where at most so many are answered."""

    def __init__(self, many, most):
        self.many = many
        self.most = most
