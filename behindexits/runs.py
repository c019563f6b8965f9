"""Runs of programs, with all answers at once or with one after the other."""

from behindexits.courses import Course
from behindexits.errors import Ended, NoAnswers, NoInputs, NoSteps, TooFew
from behindexits.ways import known
from behindexits.words import are_numbers, is_number

FEW_STEPS = 1000
MOST_STEPS = 2000


def check_inputs(program, inputs):
    if not are_numbers(inputs, program.inputs):
        raise NoInputs()


def check_answers(answers):
    if not isinstance(answers, tuple):
        raise NoAnswers(-1)
    for at, answer in enumerate(answers):
        if not is_number(answer):
            raise NoAnswers(at)


def result_of(program, course):
    """The way and the values of a run that has ended."""
    way = course.way[:2]
    names = known(program, way)
    return (way, {name: course.way[2] if name == "value" else course.numbers[name] for name in names})


def run(program, inputs, answers, *, steps=FEW_STEPS):
    """The way by which a run goes out, and the values of the names known there."""
    check_inputs(program, inputs)
    check_answers(answers)
    if not is_number(steps) or not 1 <= steps <= MOST_STEPS:
        raise NoSteps(steps)
    course = Course(program.block, dict(inputs), steps)
    course.go_on()
    for answer in answers:
        if course.asked is None:
            break
        course.take(answer)
    if course.asked is not None:
        raise TooFew(len(answers))
    return result_of(program, course)


class Stand:
    """Where a Running is: its course, the word and the place of what is asked there, and what is told at the end."""

    def __init__(self, program, course):
        self.course = course
        self.word = None
        self.place = None
        self.told = None
        if course.asked is None:
            self.told = result_of(program, course)
        else:
            statement, place = course.asked
            self.word = statement[0]
            self.place = place


class Mark:
    """Where a Running was when a with block was entered, and the mark of the with block around that one."""

    def __init__(self, stand, around):
        self.stand = stand
        self.around = around


class Running:
    """A run whose answers are given one by one."""

    def __init__(self, program, inputs):
        check_inputs(program, inputs)
        course = Course(program.block, dict(inputs), FEW_STEPS)
        course.go_on()
        self._program = program
        self._stand = Stand(program, course)
        self._mark = None

    @property
    def asks(self):
        """The word of the statement that needs the next answer, or None if the run has ended."""
        return self._stand.word

    @property
    def where(self):
        """The place of the statement that needs the next answer, or None if the run has ended."""
        return self._stand.place

    @property
    def result(self):
        """The way and the values, or None if the run has not ended."""
        if self._stand.told is None:
            return None
        way, values = self._stand.told
        return (way, dict(values))

    def __call__(self, answer):
        """Give the next answer; what asks is then."""
        if self._stand.word is None:
            raise Ended()
        if not is_number(answer):
            raise NoAnswers(0)
        course = self._stand.course.copied()
        course.take(answer)
        self._stand = Stand(self._program, course)
        return self._stand.word

    def __enter__(self):
        self._mark = Mark(self._stand, self._mark)
        return self

    def __exit__(self, kind, value, trace):
        self._stand = self._mark.stand
        self._mark = self._mark.around


def tried(running, answers):
    """What the answers return if they are given one by one. The run stays where it is."""
    check_answers(answers)
    found = []
    with running:
        for answer in answers:
            found.append(running(answer))
    return found
