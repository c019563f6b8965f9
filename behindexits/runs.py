"""Runs of programs, with all answers at once or with one after the other."""

from behindexits.codes import Code
from behindexits.courses import Course
from behindexits.errors import Ended, NoAnswers, NoInputs, NoSteps, TooFew
from behindexits.words import are_numbers, is_number

FEW_STEPS = 1000
MOST_STEPS = 2000


def check_inputs(program, inputs):
    if not are_numbers(inputs, program.inputs):
        raise NoInputs()


def check_answers(answers):
    if not isinstance(answers, tuple):
        raise NoAnswers(-1)
    for at, answer in enumerate(answers):
        if not is_number(answer):
            raise NoAnswers(at)


def code_of(program):
    if "code" not in program.kept:
        program.kept["code"] = Code(program.inputs, program.block, program.flow)
    return program.kept["code"]


def begun(program, inputs, most):
    """The course of a run with these inputs up to where it needs its first answer, or has ended."""
    code = code_of(program)
    numbers = [0] * code.many
    for name in program.inputs:
        numbers[code.indexes[name]] = inputs[name]
    course = Course(code, numbers, most)
    course.go_on()
    return course


def run(program, inputs, answers, *, steps=FEW_STEPS):
    """The way by which a run goes out, and the values of the names known there."""
    check_inputs(program, inputs)
    check_answers(answers)
    if not is_number(steps) or not 1 <= steps <= MOST_STEPS:
        raise NoSteps(steps)
    course = begun(program, inputs, steps)
    for answer in answers:
        if course.end is not None:
            break
        course.take(answer)
    if course.end is None:
        raise TooFew(len(answers))
    return course.told()


class Mark:
    """Where a Running was when a with block was entered, and the mark of the with block around that one."""

    def __init__(self, course, around):
        self.course = course
        self.around = around


class Running:
    """A run whose answers are given one by one. Where it stands, its course is left as it is, and copied to go on."""

    def __init__(self, program, inputs):
        check_inputs(program, inputs)
        self._course = begun(program, inputs, FEW_STEPS)
        self._mark = None

    @property
    def asks(self):
        """The word of the statement that needs the next answer, or None if the run has ended."""
        return self._course.word

    @property
    def where(self):
        """The place of the statement that needs the next answer, or None if the run has ended."""
        return self._course.place

    @property
    def result(self):
        """The way and the values, or None if the run has not ended."""
        return None if self._course.end is None else self._course.told()

    def __call__(self, answer):
        """Give the next answer; what asks is then."""
        if self._course.end is not None:
            raise Ended()
        if not is_number(answer):
            raise NoAnswers(0)
        course = self._course.copied()
        course.take(answer)
        self._course = course
        return course.word

    def __enter__(self):
        self._mark = Mark(self._course, self._mark)
        return self

    def __exit__(self, kind, value, trace):
        self._course = self._mark.course
        self._mark = self._mark.around


def tried(running, answers):
    """What the answers return if they are given one by one. The run stays where it is."""
    check_answers(answers)
    found = []
    with running:
        for answer in answers:
            found.append(running(answer))
    return found
