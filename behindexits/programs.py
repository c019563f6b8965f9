"""Programs: blocks of statements over inputs, checked once when they are made."""

from behindexits.checks import check_program
from behindexits.errors import NoPlace
from behindexits.forms import places_in, statement_at


class Program:
    """A valid program. program[place] is the statement at a place."""

    def __init__(self, inputs, block):
        check_program(inputs, block)
        self.inputs = inputs
        self.block = block

    def places(self):
        """All places, in reading order."""
        return places_in(self.block, ())

    def __getitem__(self, place):
        statement = statement_at(self.block, place)
        if statement is None:
            raise NoPlace(place)
        return statement

    def __contains__(self, place):
        return statement_at(self.block, place) is not None

    def __iter__(self):
        raise TypeError("a program has places(), it is not gone through by itself")

    def __eq__(self, other):
        return isinstance(other, Program) and self.inputs == other.inputs and self.block == other.block
