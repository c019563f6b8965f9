"""The errors of the package. Each keeps its values as attributes, in the order in which it is made with them."""


class BehindError(ValueError):
    """The base of all errors that the package raises."""


class NoLiterals(BehindError):
    """An argument is no list of literals, or no literal: `at` is the index, or -1 for the whole."""

    def __init__(self, at):
        self.at = at


class BadStates(BehindError):
    """The names or the rows of a set of states are invalid: `why` is the word "names" or "rows"."""

    def __init__(self, why):
        self.why = why


class NoName(BehindError):
    """A term is not known where it is used."""

    def __init__(self, term):
        self.term = term


class NoStates(BehindError):
    """A set without states has no bounds."""


class Unlike(BehindError):
    """Two things that are joined or compared do not have the same names."""


class BadProgram(BehindError):
    """The statement at `place` is wrong, and `why` is the word for it; the place () is the program's own."""

    def __init__(self, place, why):
        self.place = place
        self.why = why


class NoPlace(BehindError):
    """The argument is not a place of the program."""

    def __init__(self, place):
        self.place = place


class NoInputs(BehindError):
    """The argument does not give integers to exactly the inputs."""


class NoAnswers(BehindError):
    """The answers are no tuple of integers: `at` is the index of the first wrong one, or -1."""

    def __init__(self, at):
        self.at = at


class NoSteps(BehindError):
    """The argument is not a number of steps."""

    def __init__(self, steps):
        self.steps = steps


class TooLong(BehindError):
    """A run would begin more steps than it may."""


class TooFew(BehindError):
    """A run needs more than the `many` answers that it has."""

    def __init__(self, many):
        self.many = many


class Ended(BehindError):
    """A run that has ended takes no answer."""


class NoWay(BehindError):
    """The argument is not a way out of the program."""

    def __init__(self, way):
        self.way = way


class Never(BehindError):
    """The way is never taken."""

    def __init__(self, way):
        self.way = way


class NoPath(BehindError):
    """The argument is not a path of the program."""


class NoValues(BehindError):
    """The argument does not give integers to exactly the known names."""


class TooMany(BehindError):
    """There are more than `most` paths."""

    def __init__(self, most):
        self.most = most


class BadChoices(BehindError):
    """The choices are invalid: `at` is the index of the first wrong one, or -1 for the whole."""

    def __init__(self, at):
        self.at = at


class BadText(BehindError):
    """A row of a text is wrong: `row` is its number, counted from 1, or 0 for the whole."""

    def __init__(self, row):
        self.row = row
