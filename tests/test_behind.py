"""What stands behind the ways and comes to statements: points 6.1 to 6.4."""

import random
import time
import unittest
from itertools import product

from behindexits.behind import behind, can_end, coming
from behindexits.errors import NoPlace, NoWay, TooFew, TooLong
from behindexits.programs import Program
from behindexits.runs import run
from behindexits.states import States
from behindexits.ways import known, known_at, ways
from tests.changes import moved, moved_literal, put, rebuilt, renamed, swapped
from tests.makes import EVEN, TRIES, random_program
from tests.plain import small_states
from tests.plainsets import Sets, TooMuch, over
from tests.short import AGAIN, END, LATE, LEAVE, OUT, ZERO, ask, attempt, choose, loop, when
from tests.things import frozen, odd_things

BIG = 10 ** 99
# Far more than the calls take, so that a slow machine passes.
MOST_SECONDS = 20


def is_just(name, number):
    """The literals of a name that has just one number."""
    return ((name, "", number), ("", name, -number))


def same(name, other, number=0):
    """The literals of a name that is another one plus the number."""
    return ((name, other, number), (other, name, -number))


def has_named_handler(program):
    tries = [program[place] for place in program.places() if program[place][0] == "try"]
    return any(name for statement in tries for kinds, name, block in statement[2])


class BehindCase(unittest.TestCase):
    def assert_behind(self, program, way, *rows):
        found = behind(program, way)
        self.assertIs(type(found), States)
        self.assertEqual(found.names, tuple(known(program, way)))
        self.assertEqual(found, States(found.names, rows), found.rows)
        self.assertIs(can_end(program, way), not found.is_empty())

    def assert_coming(self, program, place, *rows):
        found = coming(program, place)
        self.assertEqual(found.names, tuple(known_at(program, place)))
        self.assertEqual(found, States(found.names, rows), found.rows)


class TestExamples(BehindCase):
    def test_the_search_loop(self):
        program = Program(("n",), (loop([choose([LEAVE])], [("set", "i", ("", -1))]),))
        self.assert_behind(program, END, (("", "i", 0), ("i", "n", -1)), is_just("i", -1))
        states = behind(program, END)
        self.assertTrue(states.holds(("", "i", 1)))
        self.assertFalse(states.holds(("i", "n", -1)))
        self.assertIn({"n": -5, "i": -1}, states)

    def test_an_ask_in_each_turn(self):
        program = Program(("n", "k"), (loop([ask("i", "k", -1)]),))
        self.assert_behind(program, END, (("n", "", 0),), (("n", "k", 0),))
        self.assert_behind(program, LATE, is_just("value", 0) + (("k", "n", -1), ("", "n", -1)))

    def test_a_hole(self):
        body = when("i", "", 2, [], [when("", "i", -5, [], [("out", "hole")])])
        program = Program(("n",), (loop([body]),))
        self.assert_behind(program, END, (("n", "", 3),))
        self.assert_behind(program, ("out", "hole"), is_just("i", 3) + (("", "n", -4),))

    def test_bounded(self):
        program = Program(("n", "k"), (
            when("", "k", 0, [], [("out", "low")]), loop([when("i", "k", -1, [], [("out", "over")])]),
        ))
        self.assert_behind(program, END, (("", "k", 0), ("n", "k", 0)))
        self.assert_behind(program, ("out", "low"), (("k", "", -1),))
        self.assert_behind(program, ("out", "over"), same("i", "k") + (("", "k", 0), ("k", "n", -1)))

    def test_stairs(self):
        program = Program(("n", "k", "m"), (
            when("", "m", 0, [], [("out", "low")]),
            loop([when("i", "k", -1, [], [("out", "over")])]),
            loop([when("j", "m", -1, [], [("out", "over")])], (), "j", ZERO, ("k", 0)),
        ))
        self.assert_behind(program, END, (("", "m", 0), ("n", "", 0), ("k", "m", 0)), (("", "m", 0), ("n", "k", 0), ("k", "m", 0)))
        self.assertTrue(behind(program, END).holds(("n", "m", 0)))


class TestStatements(BehindCase):
    def test_straight_on(self):
        program = Program(("n",), (("set", "x", ("n", 3)), ("read", "y"), ("set", "z", ("", 5))))
        self.assert_behind(program, END, same("x", "n", 3) + is_just("z", 5))
        self.assert_coming(program, (0,), ())
        self.assert_coming(program, (1,), same("x", "n", 3))
        self.assert_coming(program, (2,), same("x", "n", 3))

    def test_the_empty_program(self):
        self.assert_behind(Program((), ()), END, ())
        self.assertIn({}, behind(Program((), ()), END))
        self.assert_behind(Program(("n", "k"), ()), END, ())

    def test_if_and_choose(self):
        program = Program(("n", "k"), (when("n", "k", 2, [("set", "x", ("n", 0))], [("set", "x", ("k", 0))]),))
        self.assert_behind(program, END, same("x", "n") + (("n", "k", 2),), same("x", "k") + (("k", "n", -3),))
        self.assert_coming(program, (0, 0, 0), (("n", "k", 2),))
        self.assert_coming(program, (0, 1, 0), (("k", "n", -3),))
        program = Program((), (choose([("set", "x", ("", 1))], [("set", "x", ("", 4))]),))
        self.assert_behind(program, END, is_just("x", 1), is_just("x", 4))

    def test_names_that_are_not_known(self):
        program = Program(("n",), (choose([("read", "x"), ask("n", "x", -1), ask("x", "", 4)], [ask("n", "", 0)]),))
        self.assert_behind(program, END, (("n", "", 3),))
        self.assert_behind(program, LATE, is_just("value", 0))

    def test_ask_and_raise(self):
        program = Program(("n",), (ask("n", "", 3), ("read", "x"), ask("x", "n", 0), ("raise", "big", ("x", 2))))
        self.assert_behind(program, LATE, is_just("value", 0))
        self.assert_behind(program, ("raise", "big"), (("value", "n", 2), ("n", "", 3)))
        self.assert_coming(program, (3,), (("x", "n", 0), ("n", "", 3)))

    def test_errors_of_one_kind_together(self):
        program = Program(("n",), (choose([ask("n", "", 0)], [("raise", "late", ("n", 1))]),))
        self.assert_behind(program, LATE, is_just("value", 0) + (("", "n", -1),), same("value", "n", 1))

    def test_outs_of_several_places(self):
        program = Program(("n",), (choose([("read", "x"), ask("x", "n", 0), OUT], [("set", "x", ("n", 5)), OUT]),))
        self.assert_behind(program, ("out", "done"), (("x", "n", 0),), same("x", "n", 5))

    def test_literals_of_one_term(self):
        for number, rows in ((0, [()]), (-1, [])):
            for term in ("n", ""):
                program = Program(("n",), (when(term, term, number, [OUT]),))
                self.assert_behind(program, ("out", "done"), *rows)


class TestLoops(BehindCase):
    def test_no_turn(self):
        program = Program(("n",), (loop([OUT], (), "i", ("n", 0), ("n", 0)),))
        self.assert_behind(program, END, ())
        self.assert_behind(program, ("out", "done"))
        program = Program(("n",), (loop([OUT], (), "i", ("n", 4), ("n", -4)),))
        self.assert_behind(program, END, ())
        self.assert_coming(program, (0, 0, 0))

    def test_turns_that_never_pass(self):
        for body in ([OUT], [LEAVE], [("raise", "late", ("i", 0))]):
            program = Program(("n", "k"), (loop(body, [("out", "own")], "i", ("k", 0)),))
            self.assert_behind(program, ("out", "own"), (("n", "k", 0),))
        self.assert_behind(program, LATE, same("value", "k") + (("k", "n", -1),))

    def test_bounds_far_apart(self):
        body = [when("i", "", BIG - 1, [], [OUT])]
        program = Program(("n",), (loop(body, (), "i", ("", -BIG)),))
        self.assert_behind(program, END, (("n", "", BIG),))
        self.assert_behind(program, ("out", "done"), is_just("i", BIG) + (("", "n", -BIG - 1),))
        program = Program(("n",), (loop(body, (), "i", ("n", 0), ("n", BIG)),))
        self.assert_behind(program, END, (("n", "", 0),))
        self.assert_behind(program, ("out", "done"), is_just("i", BIG) + (("n", "", BIG), ("", "n", -1)),
                           same("i", "n") + (("", "n", -BIG - 1),))

    def test_other(self):
        program = Program(("n", "k"), (loop([ask("i", "k", 0)], [ask("n", "", 9, "big")], "i", ("k", -2)),))
        self.assert_coming(program, (0, 1, 0), (("n", "k", 1),))
        self.assert_behind(program, END, (("n", "k", 1), ("n", "", 9)))
        self.assert_behind(program, ("raise", "big"), is_just("value", 0) + (("n", "k", 1), ("", "n", -10)))

    def test_again(self):
        program = Program(("n",), (loop([when("i", "", 4, [AGAIN]), OUT]),))
        self.assert_behind(program, END, (("n", "", 5),))
        self.assert_behind(program, ("out", "done"), is_just("i", 5) + (("", "n", -6),))

    def test_a_turn_may_pass_by_some_answers(self):
        program = Program(("n",), (loop([("read", "x"), ask("x", "i", 0), ask("", "x", -3), choose([AGAIN], [OUT])]),))
        self.assert_behind(program, END, (("n", "", 0),))
        program = Program(("n", "k"), (loop([("read", "x"), ask("x", "i", 0), ask("", "x", -3), choose([AGAIN], [OUT])],
                                            (), "i", ("k", 0)),))
        self.assert_behind(program, END, (("n", "k", 0),), (("", "k", -3),))
        self.assert_behind(program, ("out", "done"), (("", "x", -3), ("x", "i", 0), ("k", "i", 0), ("i", "n", -1), ("", "k", -3)),
                           (("", "x", -3), ("x", "i", 0)) + same("i", "k") + (("i", "n", -1),))

    def test_holes_between_turns(self):
        """The turns 0, 1, 2 and those from 5 on pass, and 10 does not."""
        body = [when("i", "", 2, [AGAIN]), when("i", "", 4, [OUT]), when("i", "", 9, [AGAIN]), when("i", "", 10, [OUT])]
        program = Program(("n", "k"), (loop(body, (), "i", ("k", 0)),))
        self.assert_behind(program, END, (("n", "k", 0),), (("n", "", 3),), (("", "k", -5), ("n", "", 10)), (("", "k", -11),))
        self.assert_behind(program, ("out", "done"), is_just("i", 3) + (("k", "", 3), ("", "n", -4)),
                           is_just("i", 4) + is_just("k", 4) + (("", "n", -5),),
                           is_just("i", 10) + (("", "k", -5), ("k", "", 10), ("", "n", -11)))

    def test_overlapping_turns(self):
        """A turn passes if it is below k or above m: all do if m < k."""
        program = Program(("n", "k", "m"), (loop([when("i", "k", -1, [AGAIN]), ask("m", "i", -1)]),))
        self.assert_behind(program, END, (("n", "", 0),), (("m", "k", -1),), (("n", "k", 0),), (("m", "", -1),))
        self.assert_behind(program, LATE, is_just("value", 0) + (("k", "m", 0), ("k", "n", -1), ("", "n", -1), ("", "m", 0)))

    def test_loops_in_loops(self):
        program = Program(("n", "k"), (loop([loop([ask("j", "k", -1)], (), "j", ("i", 0), ("i", 3))]),))
        self.assert_behind(program, END, (("n", "", 0),), (("n", "k", -2),))
        program = Program(("n", "k"), (loop([loop([ask("j", "k", -1)], (), "j", ("i", 0), ("n", 0))]),))
        self.assert_behind(program, END, (("n", "", 0),), (("n", "k", 0),))
        self.assert_behind(program, LATE, is_just("value", 0) + (("k", "n", -1), ("", "n", -1)))

    def test_leave_and_again_of_the_other_part(self):
        inner = loop([when("i", "k", -1, [], [OUT])], [LEAVE], "j", ZERO, ("", 1))
        program = Program(("n", "k"), (loop([inner], [("out", "own")]),))
        self.assert_behind(program, ("out", "own"), (("n", "", 0),))
        self.assert_behind(program, END, is_just("i", 0) + (("", "n", -1), ("", "k", -1)))
        self.assert_behind(program, ("out", "done"), is_just("i", 0) + is_just("j", 0) + (("", "n", -1), ("k", "", 0)))

    def test_leave_of_an_inner_loop(self):
        """Each turn of the outer loop passes, as the inner one is left."""
        inner = loop([when("j", "k", 0, [LEAVE])], [OUT], "j", ("i", 0), ("i", 2))
        program = Program(("n", "k"), (loop([inner]),))
        self.assert_behind(program, END, (("n", "", 0),), (("n", "k", 1),))
        self.assert_behind(program, ("out", "done"), is_just("i", 0) + (("k", "", -1), ("", "n", -1)),
                           same("i", "k", 1) + (("", "k", 0), ("k", "n", -2)))

    def test_what_a_leave_makes_known(self):
        body = [("set", "x", ("i", 7)), when("k", "i", 0, [LEAVE])]
        program = Program(("n", "k"), (loop(body, [OUT]),))
        self.assert_behind(program, END, same("x", "i", 7) + (("", "i", 0), ("i", "n", -1), ("k", "i", 0), ("i", "k", 0)),
                           same("x", "i", 7) + is_just("i", 0) + (("k", "", 0), ("", "n", -1)))

    def test_names_that_look_like_the_program_s_own(self):
        """The names of variables have nothing to do with the words that the package uses."""
        program = Program(("behind", "here"), (
            loop([ask("turn", "here", -1), ("set", "point", ("turn", 1))], (), "turn", ZERO, ("behind", 0)),
        ))
        self.assert_behind(program, END, (("behind", "", 0),), (("behind", "here", 0),))


class TestTries(BehindCase):
    def test_handlers(self):
        program = Program(("n",), (
            attempt([ask("n", "", 0), ("raise", "big", ("n", 3))], [(("late",), "e", ()), (("big",), "e", ())]),
        ))
        self.assert_behind(program, END, is_just("e", 0) + (("", "n", -1),), same("e", "n", 3) + (("n", "", 0),))

    def test_the_first_handler_that_fits(self):
        handlers = [(("big",), None, (("out", "one"),)), ((), "e", (("out", "two"),)), (("late",), None, (("out", "three"),))]
        program = Program(("n",), (attempt([choose([("raise", "big", ZERO)]), ask("n", "", 0)], handlers),))
        self.assertEqual(ways(program), [END, ("out", "one"), ("out", "two")])
        self.assert_behind(program, ("out", "one"), ())
        self.assert_behind(program, ("out", "two"), is_just("e", 0) + (("", "n", -1),))
        self.assert_behind(program, END, (("n", "", 0),))
        self.assert_coming(program, (0, 3, 0))

    def test_other(self):
        program = Program(("n",), (
            attempt([("read", "x"), ask("x", "n", 0)], [((), "y", ())], [("set", "y", ("x", 1)), ask("y", "", 5, "big")]),
        ))
        self.assert_behind(program, END, (("y", "n", 1), ("y", "", 5)), is_just("y", 0))
        self.assert_behind(program, ("raise", "big"), is_just("value", 0) + (("", "n", -5),))
        self.assert_coming(program, (0, 2, 0), (("x", "n", 0),))

    def test_a_handler_that_no_run_begins(self):
        program = Program(("n",), (attempt([when("n", "n", 0, [], [("raise", "late", ZERO)])], [((), "e", (OUT,))]),))
        self.assert_behind(program, END, ())
        self.assert_behind(program, ("out", "done"))
        self.assert_coming(program, (0, 1, 0))

    def test_errors_of_handlers(self):
        inner = attempt([("raise", "late", ("n", 0))], [((), "e", (("raise", "late", ("e", 1)),))])
        self.assert_behind(Program(("n",), (inner,)), LATE, same("value", "n", 1))
        self.assert_behind(Program(("n",), (attempt([inner], [((), "f", ())]),)), END, same("f", "n", 1))

    def test_always(self):
        block = [when("n", "", 0, [OUT]), when("n", "", 5, [("raise", "late", ("n", 0))]), ("read", "x")]
        program = Program(("n", "k"), (attempt(block, (), (), [ask("n", "k", 0, "big")]),))
        self.assert_behind(program, ("out", "done"), (("n", "", 0), ("n", "k", 0)))
        self.assert_behind(program, LATE, same("value", "n") + (("", "n", -1), ("n", "", 5), ("n", "k", 0)))
        self.assert_behind(program, END, (("", "n", -6), ("n", "k", 0)))
        self.assert_behind(program, ("raise", "big"), is_just("value", 0) + (("k", "n", -1),))
        self.assert_coming(program, (0, 2, 0), ())

    def test_always_without_the_end(self):
        program = Program(("n",), (attempt([("read", "x"), ask("x", "n", 0), OUT], (), (), [("read", "y"), OUT]),))
        self.assertEqual(ways(program), [("out", "done")])
        self.assert_behind(program, ("out", "done"), ())

    def test_errors_within_always_do_not_touch_the_error_that_waits(self):
        always = [attempt([("raise", "big", ("n", 9))], [((), "e", (ask("e", "", 12, "last"),))])]
        program = Program(("n",), (attempt([("raise", "late", ("n", 1))], (), (), always),))
        self.assert_behind(program, LATE, same("value", "n", 1) + (("n", "", 3),))
        self.assert_behind(program, ("raise", "last"), is_just("value", 0) + (("", "n", -4),))

    def test_always_in_a_loop(self):
        body = [attempt([choose([LEAVE])], (), (), [when("i", "k", -1, [AGAIN])])]
        program = Program(("n", "k"), (loop(body, [("set", "i", ("", -1))]),))
        self.assert_behind(program, END, is_just("i", -1), (("", "i", 0), ("k", "i", 0), ("i", "n", -1)))

    def test_an_error_of_a_turn_caught_outside(self):
        program = Program(("n", "k"), (attempt([loop([when("i", "k", -1, [], [("raise", "late", ("i", 0))])])], [((), "e", ())],
                                               [("set", "e", ("", -1))]),))
        self.assert_behind(program, END, same("e", "k") + (("", "k", 0), ("k", "n", -1)),
                           is_just("e", 0) + (("k", "", -1), ("", "n", -1)),
                           is_just("e", -1) + (("n", "", 0),), is_just("e", -1) + (("n", "k", 0),))


class TestNever(BehindCase):
    def test_ways_that_are_never_taken(self):
        for block in (
            [when("n", "", 0, [when("", "n", -1, [OUT])])],
            [loop([when("n", "i", 0, [OUT])])],
            [("set", "x", ("n", 1)), when("x", "n", 0, [OUT])],
            [loop([loop([when("i", "j", 0, [OUT])], (), "j", ZERO, ("i", 0))])],
            [attempt([("read", "x")], [((), None, ())], [when("", "", -1, [OUT])])],
        ):
            program = Program(("n",), tuple(block))
            self.assert_behind(program, ("out", "done"))
            self.assertIsNone(behind(program, ("out", "done")).some())
            self.assertTrue(can_end(program, END))

    def test_ways_that_no_choice_of_answers_takes(self):
        """Each test may go either way by itself, but not all of them together."""
        block = (
            choose([("set", "x", ("n", 1))], [("set", "x", ("n", 4))]), choose([("set", "y", ("n", 2))], [("set", "y", ("n", 5))]),
            when("x", "y", 0, [when("y", "x", 0, [OUT])]),
        )
        program = Program(("n",), block)
        self.assert_behind(program, ("out", "done"))
        self.assert_coming(program, (2, 0, 0, 0, 0))
        self.assert_behind(program, END, *(
            same("x", "n", x) + same("y", "n", y) for x, y in ((1, 2), (1, 5), (4, 2), (4, 5))
        ))
        turns = Program(("n", "k"), (loop(block, (), "i", ("k", 0)),))
        self.assert_behind(turns, ("out", "done"))
        self.assert_behind(turns, END, ())

    def test_places_to_which_no_run_comes(self):
        program = Program(("n",), (ask("", "", -1), ("read", "x"), loop([("read", "y")])))
        for place in ((1,), (2,), (2, 0, 0)):
            self.assert_coming(program, place)
        self.assert_coming(program, (0,), ())

    def test_the_end_is_never_come_to(self):
        program = Program(("n",), (loop([LEAVE], [OUT], "i", ZERO, ("", 0)),))
        self.assert_behind(program, END)
        self.assert_behind(program, ("out", "done"), ())


class TestPlaces(BehindCase):
    def test_in_turns(self):
        program = Program(("n", "k"), (loop([ask("i", "k", -1), ("read", "x"), ask("x", "i", 0, "big"), ("read", "y")]),))
        self.assert_coming(program, (0,), ())
        self.assert_coming(program, (0, 0, 0), (("i", "n", -1), ("i", "k", 0), ("", "i", 0)), is_just("i", 0) + (("i", "n", -1),))
        self.assert_coming(program, (0, 0, 1), (("i", "n", -1), ("i", "k", -1), ("", "i", 0)))
        self.assert_coming(program, (0, 0, 3), (("i", "n", -1), ("i", "k", -1), ("", "i", 0), ("x", "i", 0)))

    def test_in_always(self):
        """All ways come there, each with what it is like."""
        program = Program(("n",), (attempt([("read", "x"), ask("x", "n", 0), ask("n", "", 3), OUT], (), (), [("read", "y")]),))
        self.assert_coming(program, (0, 2, 0), ())
        program = Program(("n",), (ask("n", "", 3), attempt([ask("n", "", 0, "big")], [((), "e", (OUT,))], (), [("read", "y")]),))
        self.assert_coming(program, (1, 3, 0), (("n", "", 3),))

    def test_behind_a_loop(self):
        program = Program(("n", "k"), (loop([ask("i", "k", -1)]), ("read", "x")))
        self.assert_coming(program, (1,), (("n", "", 0),), (("n", "k", 0),))

    def test_each_block_s_first_statement(self):
        block = (attempt([ask("n", "", 0)], [((), "e", (("read", "a"),))], [("read", "b")], [("read", "c")]),)
        program = Program(("n",), block)
        self.assert_coming(program, (0, 0, 0), ())
        self.assert_coming(program, (0, 1, 0), is_just("e", 0) + (("", "n", -1),))
        self.assert_coming(program, (0, 2, 0), (("n", "", 0),))
        self.assert_coming(program, (0, 3, 0), ())


class TestAgainstRuns(BehindCase):
    def test_what_runs_come_out_with_is_there(self):
        choice = random.Random(91)
        seen = {}
        for _ in range(250):
            inputs = choice.choice(((), ("n",), ("n", "k"), ("n", "k", "m")))
            program = random_program(choice, inputs, choice.randint(3, 24), 2, choice.choice((EVEN, TRIES)))
            sets = {way: behind(program, way) for way in ways(program)}
            for _ in range(12):
                values = {name: choice.randint(-4, 4) for name in inputs}
                try:
                    way, found = run(program, values, tuple(choice.randint(-4, 4) for _ in range(30)))
                except (TooFew, TooLong):
                    continue
                self.assertIn(found, sets[way], (program.inputs, program.block))
                seen[way[0]] = seen.get(way[0], 0) + 1
        self.assertGreater(min(seen.values()), 100)

    def assert_sets(self, program, reach, wide):
        """Each plain state is in the set, and each small state of the set is a plain one."""
        starts = list(small_states(program.inputs, -reach, reach))
        sets = Sets(program, wide, starts)
        checks = [(sets.behind.get(way, set()), behind(program, way)) for way in ways(program)]
        checks += [(sets.at[place], coming(program, place)) for place in program.places()]
        for states, found in checks:
            plain = over(states, found.names)
            for state in plain:
                self.assertIn(dict(zip(found.names, state)), found, program.block)
            if len(found.names) <= 4:
                for state in product(range(-reach, reach + 1), repeat=len(found.names)):
                    if state not in plain:
                        self.assertNotIn(dict(zip(found.names, state)), found, program.block)
        for way in ways(program):
            self.assertIs(can_end(program, way), not behind(program, way).is_empty())
        self.assertLessEqual(set(sets.behind), set(ways(program)))

    def test_small_programs_both_ways(self):
        choice = random.Random(92)
        done = 0
        while done < 500:
            inputs = choice.choice(((), ("n",), ("n",), ("n", "k")))
            program = random_program(choice, inputs, choice.randint(2, 12), 1, choice.choice((EVEN, TRIES)))
            try:
                self.assert_sets(program, 2, 7)
                done += 1
            except TooMuch:
                pass

    def test_all_programs_of_one_loop(self):
        """Each body of two simple statements, with both bounds from the inputs."""
        simple = [
            ask("i", "k", 0), ask("k", "i", 0), when("i", "k", -1, [LEAVE]), when("k", "i", -1, [AGAIN]), when("i", "", 0, [OUT]),
            choose([LEAVE]), choose([OUT], [AGAIN]), ("raise", "late", ("i", 1)), ("read", "x"), ask("n", "i", -1), LEAVE, AGAIN, OUT,
        ]
        for one, two in product(simple, repeat=2):
            if one not in (LEAVE, AGAIN, OUT) and one[0] != "raise" and one != choose([OUT], [AGAIN]) and one != two:
                for low, high in ((ZERO, ("n", 0)), (("k", -1), ("n", 1))):
                    self.assert_sets(Program(("n", "k"), (loop([one, two], [ask("n", "k", 0)], "i", low, high),)), 3, 4)


class TestAlike(BehindCase):
    """Programs that are written in another way and do the same."""

    def programs(self, seed, many, size=16):
        choice = random.Random(seed)
        for _ in range(many):
            yield random_program(choice, ("n", "k"), choice.randint(4, size), 2, choice.choice((EVEN, TRIES)))

    def test_parts_in_another_order(self):
        for program in self.programs(93, 150):
            other = Program(program.inputs, rebuilt(program.block, lambda statement: (swapped(statement),)))
            for way in ways(program):
                self.assertEqual(behind(program, way), behind(other, way), program.block)

    def test_other_names(self):
        names = {"n": "k", "k": "n", "a": "zz", "b": "a", "c": "abcdefgh", "d": "b", "e": "c"}
        for program in self.programs(94, 150):
            inputs = tuple(names[name] for name in program.inputs)
            other = Program(inputs, rebuilt(program.block, lambda statement: (renamed(statement, names),)))
            for way in ways(program):
                found = behind(program, way)
                rows = tuple(tuple((names.get(l, l), names.get(r, r), m) for l, r, m in row) for row in found.rows)
                wanted = States(tuple(names.get(name, name) for name in found.names), rows)
                self.assertEqual(behind(other, way), wanted, program.block)

    def test_inputs_in_another_order(self):
        for program in self.programs(95, 60):
            other = Program(program.inputs[::-1], program.block)
            for way in ways(program):
                self.assertEqual(behind(program, way), behind(other, way))

    def test_moved_by_a_large_number(self):
        done = 0
        for program in self.programs(96, 400):
            if has_named_handler(program):
                continue
            other = Program(program.inputs, rebuilt(program.block, lambda statement: (moved(statement, BIG),)))
            for way in ways(program):
                if way[0] != "raise":
                    found = behind(program, way)
                    rows = tuple(tuple(moved_literal(literal, BIG) for literal in row) for row in found.rows)
                    self.assertEqual(behind(other, way), States(found.names, rows), program.block)
                    done += 1
        self.assertGreater(done, 150)

    def test_loops_unrolled(self):
        choice = random.Random(97)
        simple = {"ask": 4, "if": 3, "choose": 2, "raise": 1, "out": 1, "try": 1}
        done = 0
        while done < 80:
            program = random_program(choice, ("n", "k", "i"), choice.randint(1, 7), 2, simple)
            if has_named_handler(program):
                continue
            low, many = choice.randint(-2, 2), choice.randint(0, 4)
            flat = ()
            for turn in range(low, low + many):
                if END in ways(Program(("n", "k"), flat)):
                    flat += rebuilt(program.block, lambda statement: (put(statement, "i", turn),))
            turns = loop(program.block, (), "i", ("", low), ("", low + many))
            self.assert_same_but(Program(("n", "k"), (turns,)), Program(("n", "k"), flat), "i")
            done += 1

    def assert_same_but(self, one, other, name):
        """The same behind all ways that one of them can take, over the names but this one."""
        for way in sorted(set(ways(one) + ways(other))):
            sets = []
            for program in (one, other):
                if way in ways(program) and can_end(program, way):
                    found = behind(program, way)
                    sets.append(found.without(name) if name in found.names else found)
                else:
                    sets.append(None)
            self.assertEqual(sets[0], sets[1], (one.block, way))

    def test_a_loop_and_its_first_turn(self):
        """A loop is its first turn, if there is one, and the loop of those behind it."""
        for body in ([ask("i", "k", 1)], [when("i", "k", 0, [OUT])], [choose([ask("k", "i", 2)], [ask("i", "", 3)])]):
            one = Program(("n", "k", "m"), (loop(body, (), "i", ("m", 0)),))
            first = rebuilt(tuple(body), lambda statement: (renamed(statement, {"i": "m"}),))
            other = Program(("n", "k", "m"), (when("n", "m", 0, [], first + (loop(body, (), "i", ("m", 1)),)),))
            for way in ways(one):
                if way[0] != "out":
                    self.assertEqual(behind(one, way), behind(other, way))


class TestErrors(BehindCase):
    def test_no_way(self):
        program = Program(("n",), (ask("n", "", 0),))
        for call in (behind, can_end):
            for thing in odd_things() + [("out", "done"), ("raise", "big"), ["end"], ("end", "end"), ("leave",), ("here",)]:
                with self.assertRaises(NoWay) as caught:
                    call(program, thing)
                self.assertIs(type(caught.exception), NoWay)
                self.assertIs(caught.exception.way, thing)

    def test_no_place(self):
        program = Program(("n",), (loop([ask("n", "", 0)]),))
        for thing in odd_things() + [(1,), (0, 0), (0, 0, 1), (0, 1, 0), (-1,), (0, True, 0), [0], (0, 2, 0)]:
            if thing != (0,) or isinstance(thing[0], bool):
                with self.assertRaises(NoPlace) as caught:
                    coming(program, thing)
                self.assertIs(type(caught.exception), NoPlace)
                self.assertIs(caught.exception.place, thing)

    def test_nothing_is_changed(self):
        block = (loop([ask("i", "n", -1), choose([LEAVE])]), ("read", "x"))
        program = Program(("n",), block)
        copy = frozen(block)
        for _ in range(2):
            self.assert_behind(program, END, ())
            self.assert_coming(program, (1,), ())
        self.assertEqual(program.block, copy)


class TestSizes(BehindCase):
    """Programs as large as callers pass them: each call ends in a short time."""

    def setUp(self):
        self.begun = time.perf_counter()

    def tearDown(self):
        self.assertLess(time.perf_counter() - self.begun, MOST_SECONDS)

    def look(self, program):
        self.assertLessEqual(len(program.places()), 30)
        for way in ways(program):
            found = behind(program, way)
            self.assertIs(can_end(program, way), not found.is_empty())
            if not found.is_empty():
                self.assertIn(found.some(), found)
                self.assertEqual(found & found, found)
        for place in program.places():
            coming(program, place)

    def test_many_choices(self):
        names = "abcdefghij"
        block = tuple(choose([("set", name, ("n", at))], [("set", name, ("k", -at))]) for at, name in enumerate(names))
        program = Program(("n", "k", "m"), block)
        self.look(program)
        found = behind(program, END)
        state = {"n": 5, "k": -5, "m": 0, **{name: 5 + at if at % 3 else -5 - at for at, name in enumerate(names)}}
        self.assertIn(state, found)
        self.assertNotIn({**state, "j": 4}, found)

    def test_thirty_choices_that_change_nothing(self):
        self.look(Program(("n",), (choose([]),) * 30))
        self.assert_behind(Program(("n",), (choose([]),) * 30), END, ())
        block = tuple(choose([ask("n", "", at)] if at % 3 == 0 else []) for at in range(22))
        self.assert_behind(Program(("n",), block), END, ())

    def sums(self, names, base, before):
        """Choices of which each adds nothing or a power of the base."""
        block = ()
        for at, name in enumerate(names):
            block += (choose([("set", name, (before, 0))], [("set", name, (before, base ** at))]),)
            before = name
        return block

    def test_sums_of_choices(self):
        for base, most in ((2, 511), (3, 9841)):
            block = self.sums("abcdefghi", base, "n") + (ask("i", "k", 0), ("raise", "big", ("i", 0)))
            program = Program(("n", "k", "m"), block)
            self.look(program)
            self.assert_behind(program, LATE, is_just("value", 0) + (("k", "n", most - 1),))
            found = behind(program, ("raise", "big"))
            for value in range(27):
                wanted = base == 2 or 2 not in (value // 9, value // 3 % 3, value % 3)
                self.assertIs({"n": 5, "k": 99, "m": 0, "value": 5 + value} in found, wanted)

    def test_sums_of_choices_in_turns(self):
        """A turn passes if some choices lead to k."""
        for base in (2, 3):
            body = self.sums("abcdef", base, "x") + (ask("f", "k", 0), ask("k", "f", 0))
            program = Program(("n", "k", "m"), (loop(body, (), "x", ("n", 0), ("m", 0)),))
            self.look(program)
            self.assert_behind(program, LATE, is_just("value", 0) + (("n", "m", -1),))
            found = behind(program, END)
            most = 63 if base == 2 else 1
            for state, wanted in (((0, most, most + 1), True), ((0, most, most + 2), False), ((-1, most, most + 1), False),
                                  ((0, -1, 1), False), ((0, 9, 0), True)):
                self.assertIs(dict(zip("nkm", state)) in found, wanted)

    def test_ten_tests(self):
        names = "abcdefghij"
        block = ()
        for at, name in enumerate(names):
            before = names[at - 1] if at else "n"
            block += (when(before, "k", 3 * at, [("set", name, (before, at))], [("set", name, ("m", -at))]),)
        program = Program(("n", "k", "m"), block)
        self.look(program)
        for values in ({"n": 0, "k": 0, "m": 0}, {"n": 9, "k": -4, "m": 30}, {"n": -70, "k": 1, "m": 2}):
            self.assertIn(run(program, values, ())[1], behind(program, END))

    def test_intervals(self):
        """A turn passes if it is in one of four stretches with bounds that all are free."""
        bounds = [("a", "b"), ("c", "d"), ("e", "f"), ("g", "m")]
        body = [when(low, "x", 0, [when("x", high, 0, [AGAIN])]) for low, high in bounds] + [OUT]
        program = Program(("n", "k", "m"), tuple(("read", name) for name in "abcdefg") + (loop(body, (), "x", ("n", 0), ("k", 0)),))
        self.look(program)
        found = behind(program, END)
        state = {"n": 0, "k": 20, "c": -3, "d": 4, "g": 5, "m": 9, "a": 8, "b": 12, "e": 13, "f": 19}
        self.assertIn(state, found)
        self.assertNotIn({**state, "e": 14}, found)
        self.assertNotIn({**state, "f": 18}, found)
        self.assertIn({**state, "f": 18, "k": 19}, found)

    def test_nested_loops(self):
        body = (loop([when("a", "z", 0, [], [when("z", "x", 0, [], [OUT])]), when("z", "d", 0, [], [ask("e", "z", 1)])], (), "z",
                     ("y", 0), ("m", 0)),)
        body = (loop(body + (ask("x", "y", 3),), (), "y", ("x", 0), ("m", 0)), ("read", "b"), ask("b", "x", 0))
        self.look(Program(("n", "k", "m"), tuple(("read", name) for name in "ade") + (loop(body, (), "x", ("n", 0), ("k", 0)),)))

    def test_reads_in_turns(self):
        body = ()
        before = "x"
        for name in "abcdef":
            body += (("read", name), ask(before, name, 2))
            before = name
        body += (loop([ask("z", "n", 1)], (), "z", ("a", 0), ("f", 0)),)
        self.look(Program(("n", "k", "m"), (loop(body, (), "x", ("m", 0), ("k", 0)),)))

    def test_deep(self):
        block = (OUT,)
        for at in range(9):
            block = (when("n", "k", at, block, [choose([])]),)
        for _ in range(11):
            block = (choose((), block),)
        self.look(Program(("n", "k"), block))
        block = (OUT,)
        for _ in range(29):
            block = (choose(block, ()),)
        self.look(Program(("n", "k"), block))

    def test_tries_in_tries(self):
        block = (ask("n", "k", 0),)
        for name in "abcd":
            handlers = [(("late",), name, (("raise", "big", (name, 1)),)), (("big",), name, (("raise", "late", (name, 2)),)),
                        ((), None, ())]
            block = (attempt(block, handlers, (), [choose([OUT])]),)
        self.look(Program(("n", "k"), block))

    def test_random_ones(self):
        choice = random.Random(98)
        for _ in range(60):
            program = random_program(choice, ("n", "k", "m"), 30, choice.choice((0, 3, 10 ** 99)), choice.choice((EVEN, TRIES)))
            self.look(program)


if __name__ == "__main__":
    unittest.main()
