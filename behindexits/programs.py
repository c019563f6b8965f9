"""Programs: blocks of statements over inputs, checked once when they are made."""

from behindexits.checks import Check
from behindexits.errors import NoPlace
from behindexits.forms import places_in, statement_at


class Program:
    """A valid program. program[place] is the statement at a place.

    Its flow, the names known before its statements and the names that are set are found when it is made. What is found
    out about it later is kept, so that it is found once: a program does not change.
    """

    def __init__(self, inputs, block):
        check = Check(inputs, block)
        self.inputs = inputs
        self.block = block
        self.flow = check.flow
        self.known_before = check.known
        self.settings = tuple(check.settings)
        self.kept = {}

    def places(self):
        """All places, in reading order."""
        return places_in(self.block, ())

    def __getitem__(self, place):
        statement = statement_at(self.block, place)
        if statement is None:
            raise NoPlace(place)
        return statement

    def __contains__(self, place):
        return statement_at(self.block, place) is not None

    def __iter__(self):
        raise TypeError("a program has places(), it is not gone through by itself")

    def __eq__(self, other):
        return isinstance(other, Program) and self.inputs == other.inputs and self.block == other.block
