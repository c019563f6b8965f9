"""Loops whose turns are counted at once: points 4.1 and 4.3, against a plain counting of every step."""

import random
import unittest

from behindexits.errors import TooFew, TooLong
from behindexits.programs import Program
from behindexits.runs import Running, run
from tests.makes import random_program
from tests.plainruns import result_of
from tests.short import AGAIN, LEAVE, attempt, choose, loop, when

READ = ("read", "y")


def bare(turns, other=(), name="i"):
    return loop((), other, name, ("", 3), ("", 3 + turns))


def found(program, inputs, answers, steps):
    """What run does, as result_of of the plain runs tells it."""
    try:
        return run(program, inputs, answers, steps=steps)
    except TooLong:
        return "long"
    except TooFew as error:
        return "few" if error.many == len(answers) else None


def given(program, inputs, answers):
    """The same of a Running, whose answers are given as long as it asks."""
    try:
        running = Running(program, inputs)
        for answer in answers:
            if running.asks is None:
                break
            before = running.where
            try:
                running(answer)
            except TooLong:
                assert running.where == before and running.result is None
                raise
    except TooLong:
        return "long"
    return "few" if running.asks else running.result


class TestTurns(unittest.TestCase):
    def check(self, program, answers=(), inputs=None, steps=range(1, 40)):
        for most in steps:
            wanted = result_of(program, inputs or {}, answers, most)[0]
            self.assertEqual(found(program, inputs or {}, answers, most), wanted, (program.block, answers, most))
        wanted = result_of(program, inputs or {}, answers, 1000)[0]
        self.assertEqual(given(program, inputs or {}, answers), wanted)

    def test_alone(self):
        for turns in (-1, 0, 1, 2, 12):
            for other in ((), (("set", "i", ("", 4)),), (("out", "done"),)):
                self.check(Program((), (bare(turns, other),)))
                self.check(Program((), (bare(turns, other, "x"),) + (() if other else (READ,))))

    def test_just_at_the_number_of_steps(self):
        for turns in (0, 1, 5, 998, 999):
            program = Program((), (bare(turns),))
            self.assertEqual(run(program, {}, (), steps=turns + 1), (("end",), {}))
            if turns:
                with self.assertRaises(TooLong):
                    run(program, {}, (), steps=turns)
            with self.assertRaises(TooLong):
                run(Program((), (bare(turns), ("set", "x", ("", 0)))), {}, (), steps=turns + 1)

    def test_the_greatest_number_of_steps(self):
        self.assertEqual(run(Program((), (bare(1999),)), {}, (), steps=2000), (("end",), {}))
        with self.assertRaises(TooLong):
            run(Program((), (bare(2000),)), {}, (), steps=2000)

    def test_many_turns(self):
        for turns in (10 ** 40, 10 ** 99, 1000, 1001):
            with self.assertRaises(TooLong):
                run(Program((), (bare(turns),)), {}, ())
            with self.assertRaises(TooLong):
                Running(Program((), (bare(turns),)), {})
        self.assertEqual(run(Program((), (bare(-10 ** 99),)), {}, (), steps=1), (("end",), {}))

    def test_too_long_goes_before_too_few(self):
        program = Program((), (bare(5), READ))
        for steps, wanted in ((5, TooLong), (6, TooLong), (7, TooFew)):
            with self.assertRaises(wanted):
                run(program, {}, (), steps=steps)

    def test_answers_that_make_it_too_long(self):
        program = Program((), (bare(800, name="w"), READ, loop((), (), "x", ("", 0), ("y", 0))))
        for answer, wanted in ((-5, {"y": -5}), (0, {"y": 0}), (197, {"y": 197})):
            running = Running(program, {})
            self.assertIsNone(running(answer))
            self.assertEqual(running.result, (("end",), wanted))
        running = Running(program, {})
        for answer in (198, 10 ** 40):
            with self.assertRaises(TooLong):
                running(answer)
            self.assertEqual((running.asks, running.where, running.result), ("read", (1,), None))
        running(197)
        self.assertEqual(running.result, (("end",), {"y": 197}))

    def test_within_loops(self):
        for turns in (0, 1, 3):
            for outer in (0, 1, 2, 4):
                self.check(Program((), (loop((bare(turns, name="k"),), (), "i", ("", 0), ("", outer)), READ)), (3,))
                inner = (bare(turns, (("set", "k", ("i", 0)),), "k"), when("k", "", 1, (AGAIN,), (LEAVE,)))
                self.check(Program((), (loop(inner, (READ,), "i", ("", 0), ("", outer)),)), (3,))

    def test_high_values_that_hang_on_the_turn(self):
        program = Program(("n",), (loop((loop((), (), "k", ("", 0), ("i", 0)),), (), "i", ("", 0), ("n", 0)),))
        for many in range(-1, 7):
            self.check(program, (), {"n": many})

    def test_within_tries(self):
        for turns in (0, 2, 5):
            error = ("raise", "late", ("", 2))
            handlers = ((("late",), "e", (loop((), (), "x", ("e", 0), ("", 2 + turns)),)),)
            self.check(Program((), (attempt((bare(turns), error), handlers, (), (bare(turns, (), "z"),)), READ)), (1,))
            self.check(Program((), (attempt((bare(turns), error), (), (), (bare(turns, (), "z"),)),)))
            self.check(Program((), (attempt((bare(turns),), (), (bare(1, (), "z"), ("out", "done")), (bare(2, (), "x"),)),)))

    def test_leave_and_again(self):
        for at in range(4):
            for way in (LEAVE, AGAIN):
                body = (when("i", "", at, (), (way,)), choose((bare(at, (), "z"),), (way,)))
                program = Program((), (loop(body, (READ,), "i", ("", 0), ("", 3)),))
                for answers in ((), (0, 0, 0, 5), (1, 0, 0, 7), (0, 1, 5), (0, 0, 1)):
                    self.check(program, answers)

    def test_random_programs_with_bare_loops(self):
        choice = random.Random(10)
        weights = {"set": 1, "read": 1, "if": 1, "choose": 1, "ask": 1, "raise": 1, "out": 0.3, "leave": 1, "again": 1, "for": 8, "try": 2}
        for _ in range(400):
            program = random_program(choice, size=7, weights=weights)
            inputs = {"n": choice.randint(-3, 6), "k": choice.randint(-3, 6)}
            answers = tuple(choice.randint(-2, 5) for _ in range(choice.randint(0, 8)))
            self.check(program, answers, inputs, (1, 2, 3, 5, 8, 13, 30, 200))


if __name__ == "__main__":
    unittest.main()
