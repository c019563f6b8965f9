"""Runs: points 4.1 to 4.4."""

import random
import unittest

from behindexits.errors import Ended, NoAnswers, NoInputs, NoSteps, TooFew, TooLong
from behindexits.programs import Program
from behindexits.runs import Running, run, tried
from tests.makes import EVEN, TRIES, random_program
from tests.plainruns import result_of
from tests.short import AGAIN, END, LEAVE, ZERO, attempt, choose, loop, when
from tests.things import frozen, odd_things

BIG = 10 ** 45


def out(name):
    return ("out", name)


class RunCase(unittest.TestCase):
    def assert_run(self, block, inputs, answers, way, values, steps=None):
        """The run comes out so, and takes just so many steps."""
        program = Program(tuple(inputs), tuple(block))
        self.assertEqual(run(program, inputs, answers), (way, values))
        if steps is not None:
            self.assertEqual(run(program, inputs, answers, steps=steps), (way, values))
            if steps > 1:
                self.assert_raises(TooLong, {}, run, program, inputs, answers, steps=steps - 1)

    def assert_raises(self, error, values, call, *arguments, **named):
        with self.assertRaises(error) as caught:
            call(*arguments, **named)
        self.assertIs(type(caught.exception), error)
        for name, value in values.items():
            self.assertEqual(getattr(caught.exception, name), value)
            self.assertIs(type(getattr(caught.exception, name)), type(value))


class TestStatements(RunCase):
    def test_nothing(self):
        self.assert_run((), {}, (), END, {}, 1)
        self.assert_run((), {"n": 3}, (), END, {"n": 3}, 1)

    def test_set(self):
        self.assert_run([("set", "x", ("n", -4)), ("set", "y", ("x", 1)), ("set", "z", ("", 9))], {"n": 1}, (), END,
                        {"n": 1, "x": -3, "y": -2, "z": 9}, 3)

    def test_read(self):
        self.assert_run([("read", "x"), ("read", "y")], {}, (7, -2, 5), END, {"x": 7, "y": -2}, 2)

    def test_if(self):
        block = [when("n", "k", 1, [out("yes")], [out("no")])]
        for n, k, way in ((2, 1, "yes"), (3, 1, "no"), (-9, 1, "yes"), (1, -1, "no")):
            self.assert_run(block, {"n": n, "k": k}, (), ("out", way), {"n": n, "k": k}, 2)
        self.assert_run([when("", "n", -2, [out("yes")])], {"n": 2}, (), ("out", "yes"), {"n": 2}, 2)
        self.assert_run([when("", "n", -2, [out("yes")])], {"n": 1}, (), END, {"n": 1}, 1)
        self.assert_run([when("n", "n", -1, [out("yes")])], {"n": 1}, (), END, {"n": 1}, 1)
        self.assert_run([when("", "", 0, [out("yes")])], {}, (), ("out", "yes"), {}, 2)

    def test_choose(self):
        for answer, way in ((0, "yes"), (1, "no"), (-1, "no"), (BIG, "no")):
            self.assert_run([choose([out("yes")], [out("no")])], {}, (answer,), ("out", way), {}, 2)

    def test_ask(self):
        block = [("ask", ("n", "", 4), "late"), ("read", "x")]
        self.assert_run(block, {"n": 4}, (1,), END, {"n": 4, "x": 1}, 2)
        self.assert_run(block, {"n": 5}, (1,), ("raise", "late"), {"n": 5, "value": 0}, 1)

    def test_raise(self):
        self.assert_run([("read", "x"), ("raise", "late", ("x", 2))], {"n": 8}, (5,), ("raise", "late"),
                        {"n": 8, "value": 7}, 2)
        self.assert_run([("raise", "big", ("", -3))], {}, (), ("raise", "big"), {"value": -3}, 1)

    def test_out(self):
        self.assert_run([("read", "x"), out("done")], {"n": 8}, (5,), ("out", "done"), {"n": 8, "x": 5}, 2)

    def test_numbers_of_many_digits(self):
        block = [("set", "x", ("n", BIG)), loop([("ask", ("i", "x", -1), "late")], (), "i", ("n", 0), ("x", 2 - BIG))]
        self.assert_run(block, {"n": -3 * BIG}, (), END, {"n": -3 * BIG, "x": -2 * BIG}, 6)
        block = [("read", "x"), loop([("raise", "late", ("i", -BIG))], (), "i", ("x", -1), ("n", 0))]
        self.assert_run(block, {"n": BIG * BIG}, (BIG,), ("raise", "late"), {"n": BIG * BIG, "value": -1}, 4)


class TestValues(RunCase):
    def test_names_that_are_not_known_are_not_told(self):
        self.assert_run([choose([("read", "x")]), ("read", "y")], {}, (0, 3, 4), END, {"y": 4}, 3)
        self.assert_run([choose([("read", "x")], [("set", "x", ZERO)])], {}, (0, 3), END, {"x": 3}, 2)
        self.assert_run([loop([("read", "x")])], {"n": 1}, (4,), END, {"n": 1}, 3)
        self.assert_run([choose([("read", "x"), out("done")], [out("done")])], {}, (0, 3), ("out", "done"), {}, 3)
        self.assert_run([("read", "x"), ("raise", "late", ("x", 0))], {}, (3,), ("raise", "late"), {"value": 3}, 2)

    def test_inputs_in_any_order(self):
        program = Program(("k", "n"), ())
        self.assertEqual(run(program, {"n": 1, "k": 2}, ()), (END, {"k": 2, "n": 1}))


class TestLoops(RunCase):
    def test_turns(self):
        block = [loop([("read", "x")])]
        for n, turns in ((3, 3), (1, 1), (0, 0), (-5, 0)):
            self.assert_run(block, {"n": n}, (0,) * turns, END, {"n": n}, 1 + 2 * turns)

    def test_bounds(self):
        block = [loop([when("k", "i", 0, [out("at")])], (), "i", ("n", -1), ("k", 1))]
        self.assert_run(block, {"n": 5, "k": 6}, (), ("out", "at"), {"i": 6, "k": 6, "n": 5}, 1 + 2 * 3 + 1)
        self.assert_run(block, {"n": 8, "k": 6}, (), END, {"k": 6, "n": 8}, 1)
        self.assert_run(block, {"n": 7, "k": 6}, (), ("out", "at"), {"i": 6, "k": 6, "n": 7}, 4)

    def test_other(self):
        block = [loop([("read", "x"), when("x", "", 0, [LEAVE])], [("set", "i", ("", -1))])]
        self.assert_run(block, {"n": 3}, (1, 1, 1), END, {"i": -1, "n": 3}, 1 + 3 * 3 + 1)
        self.assert_run(block, {"n": 3}, (1, 0), END, {"i": 1, "n": 3}, 1 + 3 + 3 + 1)
        self.assert_run(block, {"n": 0}, (), END, {"i": -1, "n": 0}, 2)

    def test_again(self):
        block = [loop([("read", "x"), when("x", "", 0, [AGAIN]), ("raise", "late", ("i", 0))], [out("own")])]
        self.assert_run(block, {"n": 3}, (0, 0, 0), ("out", "own"), {"n": 3}, 1 + 3 * 4 + 1)
        self.assert_run(block, {"n": 3}, (0, 1), ("raise", "late"), {"n": 3, "value": 1}, 1 + 4 + 4)

    def test_leave_and_again_in_the_other_part_mean_the_loop_around(self):
        for word, way, values in ((LEAVE, END, {"j": 0, "n": 2}), (AGAIN, ("out", "own"), {"n": 2})):
            block = [loop([loop([], [word])], [out("own")], "j")]
            self.assert_run(block, {"n": 2}, (), way, values)
        self.assert_run([loop([loop([LEAVE], [out("own")]), ("ask", ("j", "", 0), "late")], (), "j")], {"n": 2}, (),
                        ("raise", "late"), {"n": 2, "value": 0}, 1 + 2 * 5)

    def test_only_the_innermost_loop_is_left(self):
        inner = loop([LEAVE])
        self.assert_run([loop([inner, ("read", "x")], (), "j")], {"n": 2}, (1, 2), END, {"n": 2}, 1 + 2 * 5)

    def test_what_is_set_in_a_turn_is_forgotten(self):
        block = [loop([choose([("set", "x", ("i", 0)), LEAVE])], [("set", "x", ("", 50))]), out("done")]
        self.assert_run(block, {"n": 4}, (1, 1, 0), ("out", "done"), {"n": 4, "x": 2})
        self.assert_run(block, {"n": 2}, (1, 1), ("out", "done"), {"n": 2, "x": 50})

    def test_loops_in_loops(self):
        block = [loop([loop([("ask", ("i", "j", 1), "late")], (), "i", ("j", 0), ("n", 0))], (), "j")]
        self.assert_run(block, {"n": 2}, (), END, {"n": 2}, 1 + (1 + 1 + 2 * 2) + (1 + 1 + 2))
        self.assert_run(block, {"n": 3}, (), ("raise", "late"), {"n": 3, "value": 0}, 1 + 2 + 3 * 2)


class TestTries(RunCase):
    def handled(self, kinds, name="e", block=(("out", "caught"),)):
        return (kinds, name, tuple(block))

    def test_by_name(self):
        block = [attempt([("raise", "late", ("n", 1))], [self.handled(("late",))])]
        self.assert_run(block, {"n": 4}, (), ("out", "caught"), {"e": 5, "n": 4}, 3)
        block = [attempt([("raise", "late", ("n", 1))], [self.handled(("big", "early", "late"))])]
        self.assert_run(block, {"n": 4}, (), ("out", "caught"), {"e": 5, "n": 4}, 3)

    def test_any_kind(self):
        self.assert_run([attempt([("raise", "late", ZERO)], [self.handled((), None)])], {}, (), ("out", "caught"), {}, 3)

    def test_none_fits(self):
        block = [attempt([("raise", "late", ZERO)], [self.handled(("big",)), self.handled(("early",))])]
        self.assert_run(block, {}, (), ("raise", "late"), {"value": 0}, 2)
        self.assert_run([attempt([("raise", "late", ZERO)])], {}, (), ("raise", "late"), {"value": 0}, 2)

    def test_the_first_that_fits(self):
        handlers = [self.handled(("big",), None, [out("one")]), self.handled(("late", "big"), None, [out("two")]),
                    self.handled((), None, [out("three")])]
        block = [attempt([choose([("raise", "big", ZERO)]), choose([("raise", "late", ZERO)]), ("raise", "x", ZERO)], handlers)]
        self.assert_run(block, {}, (0,), ("out", "one"), {}, 4)
        self.assert_run(block, {}, (1, 0), ("out", "two"), {}, 5)
        self.assert_run(block, {}, (1, 1), ("out", "three"), {}, 5)

    def test_an_ask_has_the_value_0(self):
        block = [attempt([("ask", ("n", "", 0), "late")], [self.handled((), "e", [])], [("set", "e", ("", 7))])]
        self.assert_run(block, {"n": 1}, (), END, {"e": 0, "n": 1}, 2)
        self.assert_run(block, {"n": 0}, (), END, {"e": 7, "n": 0}, 3)

    def test_names_of_the_block_are_forgotten_in_handlers(self):
        block = [attempt([("read", "x"), ("ask", ("x", "", 0), "late")], [self.handled((), "e", [])]), out("done")]
        self.assert_run(block, {}, (3,), ("out", "done"), {}, 4)

    def test_other(self):
        block = [attempt([("read", "x")], [self.handled(())], [("raise", "late", ("x", 0))])]
        self.assert_run(block, {}, (3,), ("raise", "late"), {"value": 3}, 3)

    def test_errors_of_handlers_go_out(self):
        handlers = [self.handled(("late",), "e", [("raise", "late", ("e", 1))]), self.handled((), None)]
        self.assert_run([attempt([("raise", "late", ZERO)], handlers)], {}, (), ("raise", "late"), {"value": 1}, 3)
        outer = attempt([attempt([("raise", "late", ZERO)], handlers)], [self.handled((), "f", [])])
        self.assert_run([outer], {}, (), END, {"f": 1}, 4)

    def test_always_on_each_way(self):
        always = [("ask", ("n", "", 0), "last")]
        blocks = ([], [("read", "x")], [out("done")], [("raise", "big", ZERO)])
        ways = (END, END, ("out", "done"), ("raise", "big"))
        for block, way in zip(blocks, ways):
            values = {"n": 0, "value": 0} if way[0] == "raise" else {"n": 0, "x": 1} if block and way == END else {"n": 0}
            self.assert_run([attempt(block, (), (), always)], {"n": 0}, (1,), way, values, 2 + len(block))
            self.assert_run([attempt(block, (), (), always)], {"n": 1}, (1,), ("raise", "last"), {"n": 1, "value": 0})

    def test_always_behind_handlers_and_other(self):
        block = [attempt([("ask", ("n", "", 0), "late")], [self.handled((), None, [out("caught")])], [out("past")],
                         [("read", "x")])]
        self.assert_run(block, {"n": 1}, (5,), ("out", "caught"), {"n": 1}, 4)
        self.assert_run(block, {"n": 0}, (5,), ("out", "past"), {"n": 0}, 4)
        self.assert_raises(TooFew, {"many": 0}, run, Program(("n",), tuple(block)), {"n": 0}, ())

    def test_always_takes_the_place_of_the_way(self):
        for way in (out("done"), ("raise", "late", ZERO), ("read", "x")):
            self.assert_run([attempt([way], (), (), [out("last")])], {}, (1,), ("out", "last"), {}, 3)
            self.assert_run([attempt([way], [self.handled(())], (), [("raise", "big", ("", 4))])], {}, (1,), ("raise", "big"),
                            {"value": 4})
        inner = attempt([("raise", "late", ZERO)], (), (), [("raise", "big", ("", 4))])
        self.assert_run([attempt([inner], [self.handled(("late",)), self.handled((), "f", [])])], {}, (), END, {"f": 4}, 4)

    def test_always_in_loops(self):
        block = [loop([attempt([LEAVE], (), (), [when("i", "", 1, [AGAIN])])], [out("own")])]
        self.assert_run(block, {"n": 2}, (), ("out", "own"), {"n": 2}, 1 + 2 * 5 + 1)
        self.assert_run(block, {"n": 3}, (), END, {"i": 2, "n": 3}, 1 + 2 * 5 + 4)
        block = [loop([attempt([out("done")], (), (), [LEAVE])], [out("own")])]
        self.assert_run(block, {"n": 3}, (), END, {"i": 0, "n": 3}, 5)

    def test_the_way_goes_on_with_its_values(self):
        block = [attempt([("read", "x"), out("done")], (), (), [("read", "y")])]
        self.assert_run(block, {}, (3, 4), ("out", "done"), {"x": 3}, 4)
        block = [attempt([("raise", "late", ("n", 0))], (), (), [attempt([("raise", "big", ("", 5))], [self.handled((), "e", [])])])]
        self.assert_run(block, {"n": 2}, (), ("raise", "late"), {"n": 2, "value": 2}, 4)
        self.assert_run([attempt(block, [self.handled((), "f", [])])], {"n": 2}, (), END, {"f": 2, "n": 2}, 5)

    def test_errors_out_of_loops(self):
        block = [attempt([loop([("ask", ("i", "k", 0), "late")])], [self.handled((), None, [out("caught")])], [out("past")])]
        self.assert_run(block, {"n": 9, "k": 1}, (), ("out", "caught"), {"k": 1, "n": 9}, 2 + 3 * 2 + 1)
        self.assert_run(block, {"n": 2, "k": 1}, (), ("out", "past"), {"k": 1, "n": 2}, 2 + 2 * 2 + 1)


class TestErrors(RunCase):
    def setUp(self):
        self.program = Program(("n", "k"), (("read", "x"), loop([choose([])])))

    def test_wrong_inputs(self):
        program = Program((), (("read", "x"), ("read", "x"))[:1])
        for thing in odd_things():
            if not (isinstance(thing, dict) and not thing):
                self.assert_raises(NoInputs, {}, run, program, thing, (1,))
                self.assert_raises(NoInputs, {}, Running, program, thing)
            self.assert_raises(NoInputs, {}, run, self.program, thing, None, steps=0)
            self.assert_raises(NoInputs, {}, Running, self.program, thing)
            self.assert_raises(NoInputs, {}, run, self.program, {"n": 1, "k": thing, "a": 1}, ())
            if not isinstance(thing, int) or isinstance(thing, bool):
                self.assert_raises(NoInputs, {}, run, self.program, {"n": 1, "k": thing}, ())
                self.assert_raises(NoInputs, {}, Running, self.program, {"n": 1, "k": thing})
        for inputs in ({"n": 1}, {"n": 1, "x": 2}, {"n": 1, "k": 2, "x": 3}, {"n": 1, 0: 1}, {}):
            self.assert_raises(NoInputs, {}, run, self.program, inputs, ())

    def test_wrong_answers(self):
        inputs = {"n": 0, "k": 0}
        for thing in odd_things():
            if not isinstance(thing, tuple):
                self.assert_raises(NoAnswers, {"at": -1}, run, self.program, inputs, thing, steps=0)
            if not isinstance(thing, int) or isinstance(thing, bool):
                self.assert_raises(NoAnswers, {"at": 0}, run, self.program, inputs, (thing,), steps=0)
                self.assert_raises(NoAnswers, {"at": 2}, run, self.program, inputs, (1, 2, thing, None))

    def test_wrong_steps(self):
        inputs = {"n": 0, "k": 0}
        for thing in odd_things() + [0, -1, 2001, BIG, -BIG]:
            if isinstance(thing, bool) or not isinstance(thing, int) or not 1 <= thing <= 2000:
                with self.assertRaises(NoSteps) as caught:
                    run(self.program, inputs, (1,), steps=thing)
                self.assertIs(caught.exception.steps, thing)
        for steps in (2, 1000, 2000):
            self.assertEqual(run(self.program, inputs, (1,), steps=steps), (END, {"k": 0, "n": 0, "x": 1}))

    def test_which_comes_first(self):
        self.assert_raises(NoInputs, {}, run, self.program, {"n": 1}, [1], steps=0)
        self.assert_raises(NoAnswers, {"at": -1}, run, self.program, {"n": 0, "k": 0}, [1], steps=0)
        self.assert_raises(NoAnswers, {"at": 1}, run, self.program, {"n": 0, "k": 0}, (1, True), steps=False)
        self.assert_raises(NoSteps, {"steps": 0}, run, self.program, {"n": 0, "k": 0}, (), steps=0)

    def test_too_few(self):
        inputs = {"n": 3, "k": 0}
        for many in range(4):
            self.assert_raises(TooFew, {"many": many}, run, self.program, inputs, (0,) * many)
        self.assertEqual(run(self.program, inputs, (0,) * 4), run(self.program, inputs, (0,) * 40))

    def test_too_long_goes_before_too_few(self):
        inputs = {"n": 3, "k": 0}
        self.assert_raises(TooFew, {"many": 0}, run, self.program, inputs, (), steps=1)
        self.assert_raises(TooFew, {"many": 1}, run, self.program, inputs, (0,), steps=4)
        self.assert_raises(TooLong, {}, run, self.program, inputs, (0,), steps=3)
        self.assert_raises(TooLong, {}, run, self.program, inputs, (0,) * 4, steps=7)
        self.assertEqual(run(self.program, inputs, (0,) * 4, steps=8)[0], END)

    def test_a_thousand_steps_if_nothing_is_said(self):
        program = Program(("n",), (loop([]),))
        self.assertEqual(run(program, {"n": 999}, ()), (END, {"n": 999}))
        self.assert_raises(TooLong, {}, run, program, {"n": 1000}, ())
        self.assertEqual(run(program, {"n": 1999}, (), steps=2000), (END, {"n": 1999}))
        self.assert_raises(TooLong, {}, run, program, {"n": 2000}, (), steps=2000)
        self.assert_raises(TooLong, {}, run, program, {"n": 10 ** 99}, (), steps=2000)

    def test_nothing_is_changed(self):
        inputs = {"n": 2, "k": 0}
        result = run(self.program, inputs, (5, 0, 1))
        self.assertEqual(inputs, {"n": 2, "k": 0})
        result[1]["n"] = 9
        self.assertEqual(run(self.program, inputs, (5, 0, 1))[1], {"k": 0, "n": 2, "x": 5})


class TestAgainstPlainRuns(RunCase):
    def test_random_programs(self):
        choice = random.Random(71)
        seen = {}
        for _ in range(1500):
            inputs = choice.choice(((), ("n",), ("n", "k")))
            program = random_program(choice, inputs, choice.randint(2, 20), 2, choice.choice((EVEN, TRIES)))
            for _ in range(3):
                values = {name: choice.randint(-4, 4) for name in inputs}
                answers = tuple(choice.randint(-3, 3) for _ in range(choice.choice((0, 3, 20))))
                most = choice.choice((3, 20, 1000))
                wanted, steps, taken = result_of(program, values, answers, most)
                seen[str(wanted)[:5]] = seen.get(str(wanted)[:5], 0) + 1
                if wanted == "long":
                    self.assert_raises(TooLong, {}, run, program, values, answers, steps=most)
                elif wanted == "few":
                    self.assert_raises(TooFew, {"many": len(answers)}, run, program, values, answers, steps=most)
                else:
                    self.assertEqual(run(program, values, answers, steps=most), wanted)
                    self.assertEqual(run(program, values, answers[:taken], steps=max(steps, 1)), wanted)
                    if steps > 1:
                        self.assert_raises(TooLong, {}, run, program, values, answers, steps=steps - 1)
        self.assertGreater(min(seen.values()), 100)


class TestRunning(RunCase):
    def test_where_in_each_block(self):
        kinds = ("far", "late", "big")
        handlers = [((kind,), None, (("read", "x"),)) for kind in kinds]
        block = [choose([("raise", kind, ZERO)]) for kind in kinds]
        program = Program((), (attempt(block, handlers, [("read", "y")], [("read", "z")]),))
        for at in range(4):
            running = Running(program, {})
            for index in range(min(at + 1, 3)):
                self.assertEqual((running.asks, running.where), ("choose", (0, 0, index)))
                running(0 if index == at else 1)
            self.assertEqual((running.asks, running.where), ("read", (0, 1 + at, 0)))
            running(5)
            self.assertEqual((running.asks, running.where), ("read", (0, 5, 0)))
            running(6)
            self.assertEqual((running.asks, running.where, running.result), (None, None, (END, {})))
        program = Program((), (choose([("read", "x")], [("read", "x")]), loop([("read", "y")], [("read", "z")], high=("x", 0))))
        for answer, number in ((0, 0), (1, 1), (-7, 1)):
            running = Running(program, {})
            running(answer)
            self.assertEqual(running.where, (0, number, 0))
            running(1)
            self.assertEqual(running.where, (1, 0, 0))
            running(1)
            self.assertEqual(running.where, (1, 1, 0))

    def outcome(self, program, inputs, answers):
        try:
            return run(program, inputs, answers)
        except (TooFew, TooLong) as error:
            return type(error)

    def test_one_by_one_and_all_at_once(self):
        choice = random.Random(72)
        ended = 0
        for _ in range(500):
            inputs = choice.choice(((), ("n",), ("n", "k")))
            program = random_program(choice, inputs, choice.randint(2, 20), 2, choice.choice((EVEN, TRIES)))
            values = {name: choice.randint(-4, 4) for name in inputs}
            answers = tuple(choice.randint(-3, 3) for _ in range(12))
            if self.outcome(program, values, ()) is TooLong:
                self.assert_raises(TooLong, {}, Running, program, values)
                continue
            running = Running(program, values)
            for many, answer in enumerate(answers):
                self.assert_same(running, program, self.outcome(program, values, answers[:many]))
                if running.asks is None:
                    ended += 1
                    break
                if self.outcome(program, values, answers[:many + 1]) is TooLong:
                    where = running.where
                    self.assert_raises(TooLong, {}, running, answer)
                    self.assertEqual(running.where, where)
                    break
                self.assertEqual(running(answer), running.asks)
        self.assertGreater(ended, 200)

    def assert_same(self, running, program, wanted):
        if wanted is TooFew:
            self.assertEqual(program[running.where][0], running.asks)
            self.assertIn(running.asks, ("choose", "read"))
            self.assertIsNone(running.result)
        else:
            self.assertEqual((running.asks, running.where, running.result), (None, None, wanted))

    def test_asks_where_and_result(self):
        program = Program(("n",), (loop([choose([LEAVE], [("read", "x")])], [("set", "i", ("", -1))]),))
        running = Running(program, {"n": 2})
        self.assertEqual((running.asks, running.where, running.result), ("choose", (0, 0, 0), None))
        self.assertEqual(running(1), "read")
        self.assertEqual((running.asks, running.where, running.result), ("read", (0, 0, 0, 1, 0), None))
        self.assertEqual(running(9), "choose")
        self.assertIsNone(running(0))
        self.assertEqual((running.asks, running.where, running.result), (None, None, (END, {"i": 1, "n": 2})))

    def test_a_run_without_answers(self):
        running = Running(Program(("n",), (("raise", "late", ("n", 1)),)), {"n": 2})
        self.assertEqual((running.asks, running.where, running.result), (None, None, (("raise", "late"), {"n": 2, "value": 3})))

    def test_ended(self):
        running = Running(Program((), (("read", "x"),)), {})
        running(4)
        for thing in odd_things():
            self.assert_raises(Ended, {}, running, thing)
        self.assertEqual(running.result, (END, {"x": 4}))

    def test_wrong_answers(self):
        running = Running(Program((), (("read", "x"), choose([out("yes")]))), {})
        for _ in range(2):
            where = running.where
            for thing in odd_things():
                if isinstance(thing, bool) or not isinstance(thing, int):
                    self.assert_raises(NoAnswers, {"at": 0}, running, thing)
            self.assertEqual(running.where, where)
            running(0)
        self.assertEqual(running.result, (("out", "yes"), {"x": 0}))

    def test_too_long_at_the_begin(self):
        program = Program(("n",), (loop([]), ("read", "x")))
        self.assertEqual(Running(program, {"n": 998}).asks, "read")
        self.assert_raises(TooLong, {}, Running, program, {"n": 999})
        program = Program(("n",), (loop([]),))
        self.assertEqual(Running(program, {"n": 999}).result, (END, {"n": 999}))
        self.assert_raises(TooLong, {}, Running, program, {"n": 1000})

    def test_too_long_later(self):
        program = Program((), (("read", "x"), loop([], (), "i", ZERO, ("x", 0)), ("read", "y")))
        running = Running(program, {})
        self.assert_raises(TooLong, {}, running, 998)
        self.assertEqual((running.asks, running.where, running.result), ("read", (0,), None))
        self.assertEqual(running(997), "read")
        self.assertEqual(running.where, (2,))
        self.assertIsNone(running(-1))
        self.assertEqual(running.result, (END, {"x": 997, "y": -1}))

    def test_the_steps_of_all_answers_count(self):
        program = Program(("n",), (loop([("read", "x")]),))
        running = Running(program, {"n": 600})
        for answer in range(498):
            running(answer)
        self.assertEqual(running.where, (0, 0, 0))
        self.assert_raises(TooLong, {}, running, 7)
        self.assert_raises(TooLong, {}, running, 7)
        self.assertEqual(running.asks, "read")

    def test_what_is_done_to_arguments_and_results_afterwards(self):
        inputs = {"n": 3}
        running = Running(Program(("n",), (("read", "x"),)), inputs)
        inputs["n"] = 4
        inputs["k"] = 1
        running(5)
        self.assertEqual(running.result, (END, {"n": 3, "x": 5}))
        running.result[1]["x"] = 8
        running.result[1].clear()
        self.assertEqual(running.result, (END, {"n": 3, "x": 5}))

    def test_two_runs_of_one_program(self):
        program = Program((), (("read", "x"), ("read", "y")))
        one, other = Running(program, {}), Running(program, {})
        one(1)
        self.assertEqual((one.where, other.where), ((1,), (0,)))
        other(2)
        one(3)
        other(4)
        self.assertEqual((one.result, other.result), ((END, {"x": 1, "y": 3}), (END, {"x": 2, "y": 4})))


class TestWith(RunCase):
    def setUp(self):
        self.program = Program(("n",), (("read", "x"), choose([("read", "y"), out("yes")], [out("no")])))
        self.running = Running(self.program, {"n": 1})

    def test_it_gives_itself(self):
        with self.running as held:
            self.assertIs(held, self.running)

    def test_it_goes_back(self):
        with self.running:
            self.running(3)
            self.running(1)
            self.assertEqual(self.running.result, (("out", "no"), {"n": 1, "x": 3}))
        self.assertEqual((self.running.asks, self.running.where, self.running.result), ("read", (0,), None))
        self.running(4)
        with self.running:
            pass
        self.assertEqual(self.running.where, (1,))
        self.running(0)
        self.running(6)
        self.assertEqual(self.running.result, (("out", "yes"), {"n": 1, "x": 4, "y": 6}))
        with self.running:
            self.assert_raises(Ended, {}, self.running, 1)
        self.assertEqual(self.running.result, (("out", "yes"), {"n": 1, "x": 4, "y": 6}))

    def test_left_by_an_error(self):
        for error in (KeyError, Ended, KeyboardInterrupt):
            with self.assertRaises(error):
                with self.running:
                    self.running(3)
                    raise error()
            self.assertEqual(self.running.where, (0,))

    def test_left_by_return_and_break(self):
        def go():
            with self.running:
                self.running(3)
                return self.running.where

        self.assertEqual(go(), (1,))
        for _ in range(2):
            with self.running:
                self.running(3)
                break
        self.assertEqual(self.running.where, (0,))

    def test_one_in_another(self):
        with self.running:
            self.running(3)
            with self.running:
                self.running(0)
                with self.running:
                    self.running(5)
                    self.assertEqual(self.running.result[0], ("out", "yes"))
                self.assertEqual(self.running.where, (1, 0, 0))
            self.assertEqual(self.running.where, (1,))
            with self.running:
                self.running(1)
            self.assertEqual(self.running.where, (1,))
            self.running(1)
        self.assertEqual(self.running.where, (0,))


class TestTried(RunCase):
    def setUp(self):
        self.program = Program(("n",), (("read", "x"), choose([("read", "y"), out("yes")], [out("no")])))
        self.running = Running(self.program, {"n": 1})

    def test_what_the_answers_return(self):
        for answers, wanted in (
            ((), []), ((5,), ["choose"]), ((5, 0), ["choose", "read"]), ((5, 0, 1), ["choose", "read", None]),
            ((5, 1), ["choose", None]),
        ):
            self.assertEqual(tried(self.running, answers), wanted)
            self.assertEqual(self.running.where, (0,))
        self.running(5)
        self.assertEqual(tried(self.running, (0, 1)), ["read", None])
        self.assertEqual(self.running(0), "read")
        self.running(2)
        self.assertEqual(tried(self.running, ()), [])
        self.assertEqual(self.running.result, (("out", "yes"), {"n": 1, "x": 5, "y": 2}))

    def test_wrong_answers(self):
        for thing in odd_things():
            if not isinstance(thing, tuple):
                self.assert_raises(NoAnswers, {"at": -1}, tried, self.running, thing)
            if not isinstance(thing, int) or isinstance(thing, bool):
                self.assert_raises(NoAnswers, {"at": 3}, tried, self.running, (1, 1, 1, thing))
        self.assertEqual(self.running.where, (0,))

    def test_errors_of_the_calls(self):
        self.assert_raises(Ended, {}, tried, self.running, (1, 1, 1))
        self.assertEqual(self.running.where, (0,))
        running = Running(Program((), (("read", "x"), loop([], (), "i", ZERO, ("x", 0)))), {})
        self.assert_raises(TooLong, {}, tried, running, (2000,))
        self.assertEqual((running.asks, running.where, running.result), ("read", (0,), None))
        self.assertEqual(tried(running, (3,)), [None])
        running(0)
        self.assert_raises(Ended, {}, tried, running, (1,))
        self.assertEqual(running.result, (END, {"x": 0}))

    def test_within_a_with_block(self):
        with self.running:
            self.running(3)
            self.assertEqual(tried(self.running, (0, 2)), ["read", None])
            self.assertEqual(self.running.where, (1,))
        self.assertEqual(self.running.where, (0,))

    def test_nothing_is_changed(self):
        answers = (1, 0, 2)
        copy = frozen(answers)
        tried(self.running, answers).append(1)
        self.assertEqual(answers, copy)
        self.assertEqual(tried(self.running, answers), ["choose", "read", None])


if __name__ == "__main__":
    unittest.main()
