"""What is promised over the whole program: points 0.2 and 0.3."""

import random
import unittest

from behindexits.behind import behind, can_end, coming
from behindexits.broken import breaking, run_fault
from behindexits.differences import is_ring, solved
from behindexits.errors import BehindError, Never
from behindexits.facts import holds, is_whole, passes, tightest
from behindexits.meetings import alike, joined, may_join, within
from behindexits.mends import asked, harmless, put_in
from behindexits.papers import paper, paper_fault
from behindexits.paths import along, facts_of, paths, way_of
from behindexits.places import dropped, holds_at, needless
from behindexits.programs import Program
from behindexits.runs import Running, run, tried
from behindexits.states import States
from behindexits.texts import read, shown
from behindexits.trees import closes
from behindexits.ways import known, known_at, ways
from tests.makes import EVEN, TRIES, random_program
from tests.plain import small_states
from tests.plainsets import Sets, TooMuch, holds as does_hold
from tests.short import END, OUT, ask, choose, loop, when
from tests.things import frozen, odd_things

PROGRAM = Program(("n",), (loop([ask("i", "n", -1), choose([])]), when("n", "", 3, [], [OUT]), ("read", "x")))
TRUE = ("", "", 0)


def calls():
    """A call of each function of the package as a function of one argument, for what it is passed at each place."""
    two = (END, OUT)
    return [
        lambda thing: solved(thing), lambda thing: is_ring(thing, (0,)), lambda thing: is_ring((TRUE,), thing),
        lambda thing: States(thing, ()), lambda thing: States(("n",), thing), lambda thing: Program(thing, ()),
        lambda thing: Program((), thing), lambda thing: Program((), (thing,)), lambda thing: PROGRAM[thing],
        lambda thing: run(PROGRAM, thing, ()), lambda thing: run(PROGRAM, {"n": 1}, thing), lambda thing: run(PROGRAM, {"n": 1}, (), steps=thing),
        lambda thing: Running(PROGRAM, thing), lambda thing: Running(PROGRAM, {"n": 1})(thing), lambda thing: tried(Running(PROGRAM, {"n": 1}), thing),
        lambda thing: known(PROGRAM, thing), lambda thing: known_at(PROGRAM, thing), lambda thing: behind(PROGRAM, thing),
        lambda thing: can_end(PROGRAM, thing), lambda thing: coming(PROGRAM, thing), lambda thing: holds(PROGRAM, thing, TRUE),
        lambda thing: holds(PROGRAM, END, thing), lambda thing: tightest(PROGRAM, thing), lambda thing: is_whole(PROGRAM, thing),
        lambda thing: passes(PROGRAM, thing, {"n": 1}), lambda thing: passes(PROGRAM, (0,), thing), lambda thing: paths(PROGRAM, thing),
        lambda thing: way_of(PROGRAM, thing), lambda thing: along(PROGRAM, thing), lambda thing: facts_of(PROGRAM, thing),
        lambda thing: run_fault(PROGRAM, thing, {}), lambda thing: run_fault(PROGRAM, (0, 0), thing), lambda thing: breaking(PROGRAM, thing, TRUE),
        lambda thing: breaking(PROGRAM, END, thing), lambda thing: closes(PROGRAM, thing, (), ()), lambda thing: closes(PROGRAM, (0, 0), thing, ()),
        lambda thing: closes(PROGRAM, (0, 0), (), thing), lambda thing: paper(PROGRAM, thing, TRUE), lambda thing: paper(PROGRAM, END, thing),
        lambda thing: paper_fault(PROGRAM, thing, TRUE, []), lambda thing: paper_fault(PROGRAM, END, thing, []),
        lambda thing: paper_fault(PROGRAM, END, TRUE, thing), lambda thing: joined(PROGRAM, thing), lambda thing: joined(PROGRAM, (END, thing)),
        lambda thing: within(PROGRAM, thing, END), lambda thing: within(PROGRAM, END, thing), lambda thing: may_join(PROGRAM, thing, ()),
        lambda thing: may_join(PROGRAM, two, thing), lambda thing: may_join(PROGRAM, two, (thing,)), lambda thing: put_in(PROGRAM, thing, OUT),
        lambda thing: put_in(PROGRAM, (0,), thing), lambda thing: harmless(PROGRAM, thing, TRUE, (0,), TRUE),
        lambda thing: harmless(PROGRAM, END, thing, (0,), TRUE), lambda thing: harmless(PROGRAM, END, TRUE, thing, TRUE),
        lambda thing: harmless(PROGRAM, END, TRUE, (0,), thing), lambda thing: asked(PROGRAM, thing, TRUE, ()),
        lambda thing: asked(PROGRAM, END, thing, ()), lambda thing: asked(PROGRAM, END, TRUE, thing), lambda thing: asked(PROGRAM, END, TRUE, (thing,)),
        lambda thing: holds_at(PROGRAM, thing, TRUE), lambda thing: holds_at(PROGRAM, (0,), thing), lambda thing: dropped(PROGRAM, thing),
        lambda thing: dropped(PROGRAM, (thing,)), lambda thing: read(thing),
    ]


def answers():
    """Calls that return lists or dicts, maybe within a tuple."""
    return [
        lambda: solved([("a", "b", 1)]), lambda: PROGRAM.places(), lambda: run(PROGRAM, {"n": 0}, (7,)), lambda: tried(Running(PROGRAM, {"n": 0}), (7,)),
        lambda: ways(PROGRAM), lambda: known(PROGRAM, END), lambda: known_at(PROGRAM, (0, 0, 0)), lambda: tightest(PROGRAM, END),
        lambda: passes(PROGRAM, (0,), {"n": 4}), lambda: paths(PROGRAM, END), lambda: along(PROGRAM, (0, 0)), lambda: facts_of(PROGRAM, (0, 0)),
        lambda: breaking(PROGRAM, END, ("n", "", 2)), lambda: paper(PROGRAM, END, ("n", "", 3)), lambda: within(PROGRAM, END, OUT),
        lambda: alike(PROGRAM, Program(("n",), (("read", "x"),))), lambda: needless(PROGRAM), lambda: behind(PROGRAM, END).some(),
    ]


def spoil(thing):
    if isinstance(thing, list):
        thing[:] = ["spoilt"]
    elif isinstance(thing, dict):
        thing.clear()
        thing["spoilt"] = None
    elif isinstance(thing, tuple):
        for part in thing:
            spoil(part)


class TestWholeProgram(unittest.TestCase):
    def test_what_holds_holds_in_all_runs(self):
        choice = random.Random(2)
        looked = 0
        for _ in range(250):
            program = random_program(choice, ("n",), choice.choice((5, 7)), 1, choice.choice((EVEN, TRIES)))
            try:
                sets = Sets(program, 3, small_states(("n",), -3, 3), 20000)
            except TooMuch:
                continue
            self.check_ways(choice, program, sets)
            for place, states in sets.at.items():
                terms = ("",) + tuple(known_at(program, place))
                for _ in range(3):
                    literal = (choice.choice(terms), choice.choice(terms), choice.randint(-1, 3))
                    if holds_at(program, place, literal):
                        looked += 1
                        self.assertTrue(all(does_hold(dict(state), literal) for state in states))
        self.assertGreater(looked, 500)

    def check_ways(self, choice, program, sets):
        ended = {way: [dict(state) for state in sets.behind.get(way, ())] for way in ways(program)}
        self.assertLessEqual(set(sets.behind), set(ended))
        for way, states in ended.items():
            try:
                for (left, right), number in tightest(program, way).items():
                    if number is not None:
                        self.assertTrue(all(does_hold(state, (left, right, number)) for state in states))
            except Never:
                self.assertEqual(states, [])
        chosen = tuple(choice.choice(list(ended)) for _ in range(2))
        found = joined(program, chosen)
        for way in chosen:
            for state in ended[way]:
                self.assertIn({name: state[name] for name in found.names}, found)
        terms = ("",) + found.names
        literals = tuple((choice.choice(terms), choice.choice(terms), choice.randint(0, 3)) for _ in range(2))
        if may_join(program, chosen, literals):
            self.assertTrue(all(does_hold(state, literal) for way in chosen for state in ended[way] for literal in literals))

    def test_a_literal_holds_just_if_there_is_a_paper(self):
        """Either closed trees show it, or a path with values that a judge goes through shows that it does not hold."""
        choice = random.Random(3)
        for _ in range(150):
            program = random_program(choice, size=7, weights=choice.choice((EVEN, TRIES)))
            for way in ways(program):
                terms = ("",) + tuple(known(program, way))
                literal = (choice.choice(terms), choice.choice(terms), choice.randint(-2, 2))
                trees, broken = paper(program, way, literal), breaking(program, way, literal)
                self.assertIs(trees is None, broken is not None)
                self.assertIs(broken is None, holds(program, way, literal))
                self.assertIs(may_join(program, (way,), (literal,)), broken is None)
                self.assertIs(behind(program, way).holds(literal), broken is None)


class TestGeneralRules(unittest.TestCase):
    def test_errors_are_those_of_the_package(self):
        block = PROGRAM.block
        copy = frozen(block)
        raised = {}
        for call in calls():
            for thing in odd_things():
                kept = repr(thing)
                try:
                    call(thing)
                except BehindError as error:
                    raised[type(error).__name__] = error
                    self.assertIsInstance(error, ValueError)
                    self.assertEqual(type(error).__bases__, (BehindError,))
                self.assertEqual(repr(thing), kept)
        self.assertEqual(block, copy)
        self.assertTrue({
            "NoLiterals", "BadStates", "BadProgram", "NoPlace", "NoInputs", "NoAnswers", "NoSteps", "NoWay", "NoPath", "NoValues",
            "BadChoices", "BadText",
        } <= set(raised))

    def test_what_is_returned_belongs_to_the_caller(self):
        for call in answers():
            first = call()
            kept = frozen(first)
            spoil(first)
            second = call()
            self.assertEqual(second, kept)
            spoil(second)
            self.assertEqual(call(), kept)

    def test_what_is_passed_may_be_changed_afterwards(self):
        inputs = {"n": 0}
        running = Running(PROGRAM, inputs)
        inputs["n"] = 99
        running(7)
        self.assertEqual(running.result, (END, {"n": 0, "x": 7}))
        found = paper(PROGRAM, END, ("n", "", 3))
        self.assertIsNone(paper_fault(PROGRAM, END, ("n", "", 3), found))
        found.append(None)
        self.assertEqual(paper_fault(PROGRAM, END, ("n", "", 3), found), 1)

    def test_the_order_of_keys_means_nothing(self):
        program = Program(("a", "b"), (("read", "x"), loop([ask("i", "b", -1)], high=("a", 0))))
        for inputs in ({"a": 3, "b": 5}, {"b": 5, "a": 3}):
            self.assertEqual(run(program, inputs, (1,)), (END, {"a": 3, "b": 5, "x": 1}))
            self.assertEqual(passes(program, (1,), {**inputs, "x": 0}), [(None, 5)])
            self.assertIsNone(run_fault(program, (0,), {"x": 1, **inputs}))

    def test_what_was_returned_is_passed_on(self):
        states = behind(PROGRAM, END)
        self.assertEqual(States(states.names, states.rows), states)
        for way in ways(PROGRAM):
            for path in paths(PROGRAM, way):
                self.assertEqual(way_of(PROGRAM, path), way)
        for place in PROGRAM.places():
            self.assertEqual(put_in(PROGRAM, place, ask("", "", 0))[place], ask("", "", 0))
        self.assertEqual(dropped(put_in(PROGRAM, (1,), ask("", "", 0)), ((1,),)), PROGRAM)
        self.assertEqual(read(shown(PROGRAM)), PROGRAM)
        path, values = breaking(PROGRAM, END, ("n", "", 2))
        self.assertIsNone(run_fault(PROGRAM, path, values))
        self.assertEqual(alike(PROGRAM, read(shown(PROGRAM))), None)

    def test_sizes(self):
        """30 statements, ten of them with decisions, loops within loops, and tries."""
        inner = loop([ask("h", "a", 7), when("h", "j", 3, [("read", "p")], [("read", "p")])], (), "h", ("j", 0), ("b", 0))
        middle = loop([inner, ("read", "q")], (), "j", ("i", 0), ("b", 2))
        outer = loop([middle, ("read", "r")], (), "i", ("", 0), ("k", 0))
        tail = tuple(choose([], []) for _ in range(7))
        guard = ("try", (("try", (outer,), ((("late",), "e", (("raise", "big", ("e", 1)),)),), (), (choose([], []),)),), ((("big",), "f", ()),), (), ())
        program = Program(("a", "b", "k"), (ask("", "a", 0, "low"), guard) + tail + (("read", "s"), OUT))
        self.assertTrue(can_end(program, OUT))
        self.assertEqual(read(shown(program)), program)
        self.assertEqual(len(needless(program)[0]), 0)
        for left, right in (("", "a"), ("a", "b"), ("s", "k")):
            self.assertIs(holds(program, OUT, (left, right, 0)), (left, right) == ("", "a"))
        self.assertEqual(len(paths(program, ("raise", "low"))), 1)
        self.assertIsNone(paper_fault(program, ("raise", "low"), ("a", "", -1), paper(program, ("raise", "low"), ("a", "", -1))))
        self.assertIsNotNone(breaking(program, ("raise", "low"), ("a", "", -2)))
        self.assertTrue(harmless(program, OUT, TRUE, (1, 0, 0), ("", "a", 0)))
        self.assertFalse(harmless(program, OUT, TRUE, (1, 0, 0, 0, 0), ("", "a", -1)))


if __name__ == "__main__":
    unittest.main()
