"""Calls that raise the errors of points 4.1 to 7.4: the values of these, and that all else is as it was."""

import unittest

from behindexits.behind import behind, can_end, coming
from behindexits.errors import (
    Ended, Never, NoAnswers, NoInputs, NoLiterals, NoName, NoPlace, NoSteps, NoValues, NoWay, TooFew, TooLong,
)
from behindexits.facts import holds, is_whole, passes, tightest
from behindexits.programs import Program
from behindexits.runs import Running, run, tried
from behindexits.ways import known, known_at, ways
from tests.short import END, LATE, LEAVE, OUT, ask, choose, loop, when
from tests.things import frozen

BLOCK = (("read", "x"), loop([ask("i", "k", 1), choose([LEAVE])]), when("n", "n", 0, [], [OUT]), loop([], (), "j"))
INPUTS = {"n": 2, "k": 0}
RESULT = (END, {"k": 0, "n": 2, "x": 7})


class TestUnchanged(unittest.TestCase):
    def setUp(self):
        self.program = Program(("n", "k"), BLOCK)
        self.copy = frozen(BLOCK)

    def tearDown(self):
        self.assertEqual((self.program.inputs, self.program.block), (("n", "k"), self.copy))
        self.assertEqual(run(self.program, INPUTS, (7, 1, 0)), RESULT)
        self.assertEqual(ways(self.program), [END, OUT, LATE])
        self.assertEqual(known(self.program, END), ["k", "n", "x"])
        self.assertEqual(behind(self.program, END).names, ("k", "n", "x"))

    def assert_error(self, error, values, call, *arguments, **named):
        """The call raises the error with these values, and its arguments are as they were."""
        copies = frozen((arguments, named))
        with self.assertRaises(error) as caught:
            call(*arguments, **named)
        self.assertIs(type(caught.exception), error)
        self.assertEqual(vars(caught.exception), values)
        self.assertEqual((arguments, named), copies)

    def assert_wrong(self, error, values, call, *arguments, **named):
        self.assert_error(error, values, lambda *rest, **more: call(self.program, *rest, **more), *arguments, **named)

    def test_inputs(self):
        for inputs in (
            {"n": 2}, {"n": 2, "k": True}, {"n": 2, "k": [1]}, {"n": 2, "k": 0, "x": 1}, {"n": 2, "x": 1}, [["n", 2], ["k", 0]], {},
        ):
            self.assert_wrong(NoInputs, {}, run, inputs, [1], steps=[0])
            self.assert_wrong(NoInputs, {}, Running, inputs)

    def test_answers_and_steps(self):
        for answers, at in (([7, 1, 0], -1), ({7: 1}, -1), ((7, [1]), 1), ((True, 1), 0), ((7, 1, 0, {}), 3)):
            self.assert_wrong(NoAnswers, {"at": at}, run, dict(INPUTS), answers, steps=[0])
        for steps in (0, 2001, [1], {1: 1}, True):
            self.assert_wrong(NoSteps, {"steps": steps}, run, dict(INPUTS), (7,), steps=steps)
        self.assert_wrong(TooLong, {}, run, dict(INPUTS), (7, 1, 0), steps=5)
        self.assert_wrong(TooFew, {"many": 2}, run, dict(INPUTS), (7, 1))
        long = Program(("n",), (loop([]), ("read", "x")))
        self.assert_error(TooLong, {}, Running, long, {"n": 999})
        self.assertEqual(long, Program(("n",), (loop([]), ("read", "x"))))

    def test_a_running(self):
        inputs = dict(INPUTS)
        running = Running(self.program, inputs)
        for answer, where in ((7, (0,)), (1, (1, 0, 1)), (1, (1, 0, 1))):
            self.assert_stays(running, (self.program[where][0], where, None), NoAnswers, {"at": 0}, ([1], {0: 1}, True))
            running(answer)
        self.assert_stays(running, (None, None, RESULT), Ended, {}, ([1], 1, None))
        self.assertEqual(inputs, INPUTS)

    def assert_stays(self, running, wanted, error, values, answers):
        """None of the answers is taken, and the running run is where it was."""
        for answer in answers:
            self.assert_error(error, values, lambda thing: running(thing), answer)
            self.assertEqual((running.asks, running.where, running.result), wanted)
            self.assert_error(NoAnswers, {"at": 1}, lambda thing: tried(running, thing), (0, [answer]))
            self.assert_error(NoAnswers, {"at": -1}, lambda thing: tried(running, thing), [answer])
            self.assertEqual((running.asks, running.where, running.result), wanted)

    def test_a_running_and_too_long(self):
        inputs = {"n": 998, "k": 2000}
        running = Running(Program(("n", "k"), (("read", "x"), loop([], (), "i", ("x", 0)))), inputs)
        for answer in (-1, -(10 ** 99)):
            self.assert_error(TooLong, {}, lambda thing: running(thing), answer)
            self.assert_error(TooLong, {}, lambda thing: tried(running, thing), (answer, [])[:1])
            self.assertEqual((running.asks, running.where, running.result), ("read", (0,), None))
        self.assert_error(Ended, {}, lambda thing: tried(running, thing), (0, 1))
        self.assertEqual((running.asks, running.where, running.result), ("read", (0,), None))
        self.assertEqual(inputs, {"n": 998, "k": 2000})
        self.assertIsNone(running(0))

    def test_ways(self):
        for way in (("out", "late"), ("raise", "done"), ["end"], ("out", ["done"]), {"end": []}, {"end"}):
            for call in (known, behind, can_end, tightest, is_whole):
                self.assert_wrong(NoWay, {"way": way}, call, way)
            self.assert_wrong(NoWay, {"way": way}, holds, way, ["n", "k", 0])
        for call in (tightest, is_whole):
            self.assert_wrong(Never, {"way": OUT}, call, OUT)

    def test_places(self):
        for place in ((4,), (1, 0), (1, 0, 2), [0], (0, [0], 0), {0: 0}, {0}):
            for call in (known_at, coming):
                self.assert_wrong(NoPlace, {"place": place}, call, place)
            self.assert_wrong(NoPlace, {"place": place}, passes, place, [3])
        for place in ((0,), (1, 0, 0), (2,), (2, 1, 0)):
            self.assert_wrong(NoPlace, {"place": place}, passes, place, {"n": 1, "k": 2, "x": 3})

    def test_literals_and_names(self):
        for literal in (["n", "k", 0], ("n", "k", [0]), ("n", ["k"], 0), ("n", "k"), {"n": "k"}, ("n", "k", True)):
            self.assert_wrong(NoLiterals, {"at": 0}, holds, END, literal)
        for literal, term in ((("i", "n", 0), "i"), (("n", "y", 0), "y"), (("value", "i", 0), "value"), (("", "N", 0), "N")):
            self.assert_wrong(NoName, {"term": term}, holds, END, literal)

    def test_values(self):
        for values in (
            {"n": 1, "k": 2}, {"n": 1, "k": 2, "x": False}, {"n": 1, "k": 2, "x": 3, "i": 4}, {"n": [1], "k": 2, "x": 3}, [1, 2, 3],
            {"n": 1, "k": 2, "i": 3}, {},
        ):
            self.assert_wrong(NoValues, {}, passes, (1,), values)


if __name__ == "__main__":
    unittest.main()
