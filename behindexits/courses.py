"""Courses: runs of programs, step by step, each up to where it needs an answer or has ended.

What is around the place where a course is stands in its frames, from within to without, as nested pairs (frame,
frames). A frame has a word and what is needed when that which is within it has come out by a way:

- ("block", block, before, index): a block, what the places in it begin with, and the index of the next statement.
- ("turn", loop, place, turn, high): a turn of a loop, and the loop's high value.
- ("try", statement, place): the block of a try.
- ("rest", statement, place): the part behind that block, if there is one, up to the always part.
- ("last", way): the always part, with the way that goes on behind it.

A name that is known somewhere was set last on the way to there. So numbers that are forgotten may as well be kept.

Frames and the numbers of the names are never changed, only replaced. So a copy of a course is cheap.
"""

from behindexits.errors import TooLong
from behindexits.flows import AGAIN, END, LEAVE, first_fit
from behindexits.forms import blocks_of


def number_of(numbers, value):
    """The integer of a value."""
    term, number = value
    return number if term == "" else numbers[term] + number


def does_hold(numbers, literal):
    left, right, number = literal
    return number_of(numbers, (left, 0)) <= number_of(numbers, (right, number))


def with_number(numbers, name, number):
    found = {old: numbers[old] for old in numbers}
    found[name] = number
    return found


class Course:
    """A run. Its way is the end until it goes another way; the way of an error has its number, too."""

    def __init__(self, block, numbers, most):
        """A run of a block that has not begun yet, and may take so many steps."""
        self.numbers = numbers
        self.frames = (("block", block, (), 0), None)
        self.way = END
        self.asked = None
        self.steps = 0
        self.most = most

    def copied(self):
        other = Course((), self.numbers, self.most)
        other.frames = self.frames
        other.way = self.way
        other.asked = self.asked
        other.steps = self.steps
        return other

    def go_on(self):
        """Go on to where an answer is needed, or to the end of the run."""
        while self.asked is None and self.frames is not None:
            frame, around = self.frames
            if frame[0] == "block":
                self.go_through(frame, around)
            elif frame[0] == "turn":
                self.end_turn(frame, around)
            elif frame[0] == "try":
                self.end_tried(frame, around)
            elif frame[0] == "rest":
                self.end_rest(frame, around)
            else:
                self.end_always(frame, around)

    def take(self, answer):
        """Take the answer that is needed, and go on."""
        statement, place = self.asked
        self.asked = None
        if statement[0] == "read":
            self.numbers = with_number(self.numbers, statement[1], answer)
        else:
            self.enter(statement, place, 0 if answer == 0 else 1)
        self.go_on()

    def begin_step(self):
        if self.steps == self.most:
            raise TooLong()
        self.steps += 1

    def enter(self, statement, place, number):
        """Come to the begin of the block with a number of the statement at a place."""
        self.way = END
        self.frames = (("block", blocks_of(statement)[number], place + (number,), 0), self.frames)

    def go_through(self, frame, around):
        word, block, before, index = frame
        if self.way != END or index == len(block):
            self.frames = around
        else:
            self.frames = ((word, block, before, index + 1), around)
            self.begin_step()
            self.begin(block[index], before + (index,))

    def begin(self, statement, place):
        word = statement[0]
        if word in ("read", "choose"):
            self.asked = (statement, place)
        elif word == "set":
            self.numbers = with_number(self.numbers, statement[1], number_of(self.numbers, statement[2]))
        elif word == "if":
            self.enter(statement, place, 0 if does_hold(self.numbers, statement[1]) else 1)
        elif word == "ask":
            if not does_hold(self.numbers, statement[1]):
                self.way = ("raise", statement[2], 0)
        elif word == "raise":
            self.way = ("raise", statement[1], number_of(self.numbers, statement[2]))
        elif word == "for":
            # Before its first turn a loop is as behind a turn that has passed.
            low = number_of(self.numbers, statement[2])
            high = number_of(self.numbers, statement[3])
            self.frames = (("turn", statement, place, low - 1, high), self.frames)
        elif word == "try":
            self.frames = (("try", statement, place), self.frames)
            self.enter(statement, place, 0)
        else:
            # An out, a leave and an again are written like their ways.
            self.way = statement

    def end_turn(self, frame, around):
        word, statement, place, turn, high = frame
        self.frames = around
        if self.way == LEAVE:
            self.way = END
        elif self.way in (END, AGAIN):
            if turn + 1 < high:
                self.begin_step()
                self.numbers = with_number(self.numbers, statement[1], turn + 1)
                self.frames = ((word, statement, place, turn + 1, high), around)
                self.enter(statement, place, 0)
            else:
                self.enter(statement, place, 1)

    def end_tried(self, frame, around):
        word, statement, place = frame
        self.frames = (("rest", statement, place), around)
        handlers = statement[2]
        if self.way == END:
            self.enter(statement, place, 1 + len(handlers))
        elif self.way[0] == "raise":
            at = first_fit(handlers, self.way[1])
            if at is not None:
                name = handlers[at][1]
                if name is not None:
                    self.numbers = with_number(self.numbers, name, self.way[2])
                self.enter(statement, place, 1 + at)

    def end_rest(self, frame, around):
        word, statement, place = frame
        self.frames = (("last", self.way), around)
        self.enter(statement, place, 2 + len(statement[2]))

    def end_always(self, frame, around):
        word, way = frame
        self.frames = around
        if self.way == END:
            self.way = way
