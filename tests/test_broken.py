"""Descriptions of runs: points 8.5 and 8.6."""

import random
import unittest

from behindexits.broken import breaking, run_fault
from behindexits.errors import NoLiterals, NoName, NoWay, TooMany
from behindexits.facts import holds, tightest
from behindexits.paths import along, paths
from behindexits.programs import Program
from behindexits.runs import run
from behindexits.ways import known, ways
from tests.makes import EVEN, TRIES, random_program
from tests.plainpaths import fault, holds as does_hold, small_values, walks_of_program
from tests.plainsets import Sets, TooMuch
from tests.short import END, LATE, LEAVE, OUT, ask, attempt, choose, loop, when
from tests.things import frozen, is_same, odd_things

BIG = 10 ** 40
HOLE = Program(("n",), (loop([when("i", "", 2, [], [when("", "i", -5, [], [("out", "hole")])])]),))


def reading(program, path, values):
    """The answers that a run needs that goes along a path without loops."""
    answers = []
    path = list(path)

    def ends(statements):
        """Go through a block; whether the way does not go on behind it."""
        for statement in statements:
            word = statement[0]
            if word == "read":
                answers.append(values[statement[1]])
            elif word in ("if", "choose"):
                number = path.pop(0)
                if word == "choose":
                    answers.append(number)
                if ends(statement[-2 + number]):
                    return True
            elif word in ("out", "raise") or word == "ask" and path.pop(0):
                return True
        return False

    ends(program.block)
    return tuple(answers)


class BrokenCase(unittest.TestCase):
    def setUp(self):
        self.choice = random.Random(85)

    def assert_breaks(self, program, way, literal):
        """What breaking returns is judged by run_fault, and the literal does not hold with it."""
        found = breaking(program, way, literal)
        self.assertIs(found is None, holds(program, way, literal), (program.block, way, literal))
        if found is not None:
            path, values = found
            self.assertIn(path, paths(program, way))
            self.assertEqual(sorted(values), along(program, path))
            self.assertIsNone(run_fault(program, path, values), (program.block, path, values))
            self.assertFalse(does_hold({**values, "": 0}, literal))
        return found


class TestRunFault(BrokenCase):
    def test_each_fact(self):
        program = Program(("n", "k"), (
            ask("n", "k", 0), ("set", "x", ("k", 2)), when("x", "", 9, [], [OUT]), ("raise", "late", ("x", 1)),
        ))
        right = {"n": 1, "k": 3, "x": 5, "value": 6}
        self.assertIsNone(run_fault(program, (0, 0), right))
        for name, number, index in (
            ("n", 4, 0), ("x", 6, 1), ("x", 4, 2), ("k", 8, 2), ("value", 7, 4), ("value", 5, 5), ("k", 0, 0), ("k", 2, 1), ("k", 4, 2),
        ):
            self.assertEqual(run_fault(program, (0, 0), {**right, name: number}), ("fact", index))
        self.assertEqual(run_fault(program, (0, 0), {"n": 1, "k": 8, "x": 10, "value": 11}), ("fact", 3))
        self.assertIsNone(run_fault(program, (0, 1), {"n": 1, "k": 8, "x": 10}))
        self.assertEqual(run_fault(program, (1,), {"n": 1, "k": 8, "value": 0}), ("fact", 0))
        self.assertIsNone(run_fault(program, (1,), {"n": 9, "k": 8, "value": 0}))

    def test_names(self):
        program = Program(("n",), (("read", "x"),))
        right = {"n": 0, "x": BIG}
        self.assertIsNone(run_fault(program, (), right))
        for wrong in (
            {}, {"n": 0}, {"x": 0}, {"n": 0, "x": 0, "y": 0}, {"n": 0, "y": 0}, {"n": True, "x": 0}, {"n": 0, "x": None},
            {"n": "0", "x": 0}, [("n", 0), ("x", 0)], None, (), {"n": 0, "x": 0, "value": 0}, {"n": 0, "x": 0, "": 0},
        ):
            self.assertEqual(run_fault(program, (), wrong), ("values",))
        self.assertEqual(run_fault(program, (0,), right), ("path",))

    def test_a_name_that_is_forgotten(self):
        program = Program((), (attempt([("set", "x", ("", 3)), ("raise", "late", ("x", 0))], [((), None, ())]),))
        self.assertEqual(along(program, ()), ["x"])
        self.assertIsNone(run_fault(program, (), {"x": 3}))
        self.assertEqual(run_fault(program, (), {"x": 2}), ("fact", 1))
        self.assertEqual(run_fault(program, (), {}), ("values",))

    def test_turns(self):
        for n in range(-3, 9):
            self.assertEqual(run_fault(HOLE, (0,), {"n": n}), None if n <= 3 else ("fact", 0))
        for i in range(-3, 9):
            for n in (4, 5, 40):
                wanted = 0 if i < 0 else 1 if i >= n else 2 if i > 3 else 3 if i < 3 else None
                wanted = None if wanted is None else ("fact", wanted)
                self.assertEqual(run_fault(HOLE, (1, 1, 1), {"n": n, "i": i}), wanted, (i, n))
        self.assertIsNone(run_fault(HOLE, (0,), {"n": -BIG}))
        self.assertEqual(run_fault(HOLE, (0,), {"n": BIG}), ("fact", 0))

    def test_very_many_turns(self):
        program = Program(("n", "k"), (loop([ask("i", "k", -1)]),))
        self.assertIsNone(run_fault(program, (0,), {"n": BIG, "k": BIG}))
        self.assertEqual(run_fault(program, (0,), {"n": BIG, "k": BIG - 1}), ("fact", 0))
        self.assertIsNone(run_fault(program, (1, 1), {"n": BIG, "k": 7, "i": 7, "value": 0}))
        self.assertEqual(run_fault(program, (1, 1), {"n": BIG, "k": 7, "i": 8, "value": 0}), ("fact", 2))

    def test_all_small_values_against_a_plain_reading(self):
        for at in range(250):
            program = random_program(self.choice, size=6, reach=1, weights=self.choice.choice((EVEN, TRIES)))
            for walk in walks_of_program(program)[:12]:
                path, way, names, facts = walk
                for values in self.some_values(names):
                    # What is read is near enough to what it is compared with.
                    self.assertEqual(run_fault(program, path, values), fault(program, walk, values, 9), (program.block, path, values))

    def some_values(self, names):
        if len(names) <= 2:
            return list(small_values(names, range(-2, 3)))
        return [{name: self.choice.randint(-2, 2) for name in names} for _ in range(12)]

    def test_anything(self):
        program = Program(("n",), (choose([]),))
        for thing in odd_things():
            if not (isinstance(thing, tuple) and len(thing) == 1 and type(thing[0]) is int and thing[0] in (0, 1)):
                self.assertEqual(run_fault(program, thing, {"n": 1}), ("path",))
            self.assertEqual(run_fault(program, (0,), thing), ("values",))
            self.assertEqual(run_fault(program, (True,), thing), ("path",))

    def test_nothing_is_changed(self):
        values = {"n": 3}
        run_fault(HOLE, (0,), values)
        self.assertEqual(values, {"n": 3})


class TestBreaking(BrokenCase):
    def test_by_hand(self):
        self.assertIsNone(breaking(HOLE, END, ("n", "", 3)))
        path, values = self.assert_breaks(HOLE, END, ("n", "", 2))
        self.assertEqual((path, values), ((0,), {"n": 3}))
        self.assertEqual(self.assert_breaks(HOLE, ("out", "hole"), ("i", "", 2))[1]["i"], 3)
        self.assertIsNone(breaking(HOLE, ("out", "hole"), ("i", "n", -1)))
        path, values = self.assert_breaks(HOLE, ("out", "hole"), ("n", "", BIG))
        self.assertGreater(values["n"], BIG)

    def test_the_search_loop(self):
        program = Program(("n",), (loop([choose([LEAVE])], [("set", "i", ("", -1))]),))
        self.assertIsNone(breaking(program, END, ("", "i", 1)))
        path, values = self.assert_breaks(program, END, ("i", "n", -1))
        self.assertEqual((path, values["i"]), ((0,), -1))
        self.assertEqual(self.assert_breaks(program, END, ("i", "", 4))[0], (1, 0))

    def test_values_of_errors(self):
        program = Program(("n",), (attempt([("raise", "late", ("n", 1))], [((), "e", (("raise", "big", ("e", 1)),))]),))
        way = ("raise", "big")
        self.assertIsNone(breaking(program, way, ("value", "n", 2)))
        path, values = self.assert_breaks(program, way, ("value", "n", 1))
        self.assertEqual((values["e"] - values["n"], values["value"] - values["n"]), (1, 2))

    def test_ways_that_are_never_taken(self):
        program = Program(("n",), (when("", "", -1, [OUT]),))
        self.assertIsNone(breaking(program, OUT, ("", "", -1)))
        self.assertEqual(self.assert_breaks(program, END, ("", "", -1))[0], (1,))

    def test_random_programs(self):
        broken = 0
        for _ in range(500):
            program = random_program(self.choice, size=self.choice.choice((5, 8, 11)), weights=self.choice.choice((EVEN, TRIES)))
            for way in ways(program):
                terms = ("",) + tuple(known(program, way))
                for _ in range(3):
                    literal = (self.choice.choice(terms), self.choice.choice(terms), self.choice.randint(-3, 3))
                    broken += self.assert_breaks(program, way, literal) is not None
        self.assertGreater(broken, 1000)

    def test_just_below_the_tightest(self):
        for _ in range(100):
            program = random_program(self.choice, size=8, weights=self.choice.choice((EVEN, TRIES)))
            for way in ways(program):
                if breaking(program, way, ("", "", -1)) is not None:
                    for (left, right), number in tightest(program, way).items():
                        if number is not None:
                            self.assertIsNone(breaking(program, way, (left, right, number)))
                            self.assertIsNotNone(self.assert_breaks(program, way, (left, right, number - 1)))

    def test_a_run_goes_along(self):
        """What is described is among all that small runs do, or needs numbers that these do not have."""
        seen = 0
        for _ in range(150):
            program = random_program(self.choice, inputs=("n",), size=6, reach=1, weights=self.choice.choice((EVEN, TRIES)))
            for way in ways(program):
                terms = ("",) + tuple(known(program, way))
                found = breaking(program, way, (self.choice.choice(terms), self.choice.choice(terms), self.choice.randint(-2, 1)))
                if found is not None and all(abs(number) <= 6 for number in found[1].values()):
                    path, values = found
                    try:
                        sets = Sets(program, 7, [{"n": values["n"]}])
                    except TooMuch:
                        continue
                    state = frozenset((name, values[name]) for name in known(program, way))
                    ends = {frozenset((name, number) for name, number in after if name in known(program, way)) for after in sets.behind[way]}
                    self.assertIn(state, ends, (program.block, path, values))
                    seen += 1
        self.assertGreater(seen, 100)

    def test_a_run_goes_along_without_loops(self):
        weights = {"set": 2, "read": 2, "if": 4, "choose": 3, "ask": 3, "raise": 1, "out": 1}
        for _ in range(300):
            program = random_program(self.choice, size=8, weights=weights)
            for way in ways(program):
                terms = ("",) + tuple(known(program, way))
                found = breaking(program, way, (self.choice.choice(terms), self.choice.choice(terms), self.choice.randint(-4, 2)))
                if found is not None:
                    path, values = found
                    inputs = {name: values[name] for name in program.inputs}
                    wanted = (way, {name: values[name] for name in known(program, way)})
                    self.assertEqual(run(program, inputs, reading(program, path, values)), wanted)

    def test_errors_in_their_order(self):
        many = Program(("n",), tuple(choose([]) for _ in range(9)))
        for way, literal, error, told in (
            (LATE, None, NoWay, {"way": LATE}), (END, None, NoLiterals, {"at": 0}), (END, ["n", "", 0], NoLiterals, {"at": 0}),
            (END, ("n", "", True), NoLiterals, {"at": 0}), (END, ("x", "y", 0), NoName, {"term": "x"}),
            (END, ("n", "value", 0), NoName, {"term": "value"}), (END, ("n", "", 0), TooMany, {"most": 500}),
            (END, ("n", "n", 0), TooMany, {"most": 500}),
        ):
            with self.assertRaises(error) as caught:
                breaking(many, way, literal)
            self.assertEqual(vars(caught.exception), told)

    def test_anything(self):
        for thing in odd_things():
            with self.assertRaises(NoWay) as caught:
                breaking(HOLE, thing, None)
            self.assertTrue(is_same(caught.exception.way, thing))
            if not (isinstance(thing, tuple) and len(thing) == 3):
                with self.assertRaises(NoLiterals) as caught:
                    breaking(HOLE, END, thing)
                self.assertEqual(caught.exception.at, 0)

    def test_what_is_returned_belongs_to_the_caller(self):
        first = breaking(HOLE, END, ("n", "", 2))
        kept = frozen(first)
        first[1]["n"] = "spoilt"
        self.assertEqual(breaking(HOLE, END, ("n", "", 2)), kept)


if __name__ == "__main__":
    unittest.main()
