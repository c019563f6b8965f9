"""Mends: points 10.1 to 10.4."""

import random
import unittest
from itertools import combinations

from behindexits.errors import BadChoices, BadProgram, NoLiterals, NoName, NoPlace, NoWay
from behindexits.facts import holds
from behindexits.mends import asked, harmless, put_in
from behindexits.programs import Program
from behindexits.runs import run
from behindexits.ways import known, known_at, ways
from tests.cases import ErrorCase
from tests.makes import EVEN, TRIES, random_program
from tests.plain import small_states
from tests.plainmeets import TooMuch, lost
from tests.short import AGAIN, END, LATE, LEAVE, OUT, ask, attempt, choose, loop, when
from tests.things import is_same, odd_things

WISH = ("out", "wish")
LOOPS = dict(EVEN, **{"for": 5})
PLAIN = Program(("n",), (("read", "x"), ("set", "y", ("x", 1))))
TRUE = ("", "", 0)


def test_of(literal):
    return ("if", literal, (), (WISH,))


class MendCase(ErrorCase):
    def setUp(self):
        self.choice = random.Random(101)

    def literal(self, names, reach=2):
        terms = ("",) + tuple(names)
        return (self.choice.choice(terms), self.choice.choice(terms), self.choice.randint(-reach, reach))


class TestPutIn(MendCase):
    def test_by_hand(self):
        program = Program(("n",), (
            when("n", "", 0, [("read", "x")], [OUT]),
            attempt([ask("n", "", 1)], [((), "e", (("read", "y"),))], [("read", "z")], [choose([("read", "w")])]),
            loop([AGAIN], [("read", "v")]),
        ))
        new = ("read", "new")
        for place, block in (
            ((0,), (new,) + program.block),
            ((2,), program.block[:2] + (new,) + program.block[2:]),
            ((0, 0, 0), (when("n", "", 0, [new, ("read", "x")], [OUT]),) + program.block[1:]),
            ((0, 1, 0), (when("n", "", 0, [("read", "x")], [new, OUT]),) + program.block[1:]),
            ((1, 0, 0), (program.block[0], attempt([new, ask("n", "", 1)], [((), "e", (("read", "y"),))], [("read", "z")], [choose([("read", "w")])]), program.block[2])),
            ((1, 1, 0), (program.block[0], attempt([ask("n", "", 1)], [((), "e", (new, ("read", "y")))], [("read", "z")], [choose([("read", "w")])]), program.block[2])),
            ((1, 2, 0), (program.block[0], attempt([ask("n", "", 1)], [((), "e", (("read", "y"),))], [new, ("read", "z")], [choose([("read", "w")])]), program.block[2])),
            ((1, 3, 0, 0, 0), (program.block[0], attempt([ask("n", "", 1)], [((), "e", (("read", "y"),))], [("read", "z")], [choose([new, ("read", "w")])]), program.block[2])),
            ((2, 0, 0), program.block[:2] + (loop([new, AGAIN], [("read", "v")]),)),
            ((2, 1, 0), program.block[:2] + (loop([AGAIN], [new, ("read", "v")]),)),
        ):
            found = put_in(program, place, new)
            self.assertEqual((found.inputs, found.block), (("n",), block), place)
            self.assertEqual(found[place], new)

    def test_at_every_place(self):
        for _ in range(150):
            program = random_program(self.choice, size=7, weights=self.choice.choice((EVEN, TRIES)))
            for place in program.places():
                statement = self.choice.choice((("read", "new"), ask("", "", 0), choose([]), ("set", "new", ("", 3))))
                try:
                    found = put_in(program, place, statement)
                except BadProgram as error:
                    self.fail(error.why)
                self.assertEqual(found[place], statement)
                self.assertEqual(found[place[:-1] + (place[-1] + 1,)], program[place])
                self.assertEqual(len(found.places()), len(program.places()) + len(Program((), (statement,)).places()))

    def test_what_is_no_program(self):
        program = Program(("n",), (("read", "x"), loop([("read", "y")]), OUT))
        for place, statement, where, why in (
            ((0,), None, (0,), "form"), ((1, 0, 0), ("again", 1), (1, 0, 0), "form"), ((2,), [OUT], (2,), "form"),
            ((2,), OUT, (3,), "dead"), ((1, 0, 0), LEAVE, (1, 0, 1), "dead"), ((0,), ("raise", "late", ("", 0)), (1,), "dead"),
            ((0,), ("read", "n"), (0,), "name"), ((0,), ("read", "x"), (1,), "name"), ((1, 0, 0), ("read", "y"), (1, 0, 1), "name"),
            ((2,), ("set", "i", ("", 0)), (2,), "name"), ((0,), ("set", "z", ("x", 0)), (0,), "term"), ((2,), ask("y", "", 0), (2,), "term"),
            ((0,), LEAVE, (0,), "loop"), ((2,), choose([AGAIN]), (2, 0, 0), "loop"), ((0,), choose([OUT, OUT]), (0, 0, 1), "dead"),
        ):
            self.assert_error(BadProgram, {"place": where, "why": why}, put_in, program, place, statement)

    def test_places(self):
        for place in ((2,), (0, 0), (0, 0, 0), (-1,), (True,), [0], None, (), "0", {0: 0}, ((0,),)):
            self.assert_error(NoPlace, {"place": place}, put_in, PLAIN, place, None)

    def test_anything(self):
        for thing in odd_things():
            if not isinstance(thing, tuple) or len(thing) != 1 or type(thing[0]) is not int or thing[0] not in (0, 1):
                with self.assertRaises(NoPlace) as caught:
                    put_in(PLAIN, thing, None)
                self.assertTrue(is_same(caught.exception.place, thing))
            with self.assertRaises(BadProgram) as caught:
                put_in(PLAIN, (1,), thing)
            self.assertEqual((caught.exception.place, caught.exception.why), ((1,), "form"))


class TestHarmless(MendCase):
    def assert_harmless(self, program, way, wish, place, literal, wanted):
        self.assertIs(harmless(program, way, wish, place, literal), wanted, (program.block, way, wish, place, literal))

    def test_the_example(self):
        for place, literal, wanted in (((0,), ("n", "", 0), False), ((1,), ("x", "n", -1), False), ((1,), ("x", "n", 0), True)):
            self.assert_harmless(PLAIN, END, ("x", "n", 0), place, literal, wanted)

    def test_any_turn_of_a_loop(self):
        program = Program(("n",), (loop([choose([])]), ("read", "x")))
        # The test in the loop is met in the turn 3 if there is one.
        self.assert_harmless(program, END, ("n", "", 3), (0, 0, 0), ("i", "", 2), True)
        self.assert_harmless(program, END, ("n", "", 4), (0, 0, 0), ("i", "", 2), False)
        # In the first turn, whatever comes behind it.
        self.assert_harmless(program, END, ("", "n", -1), (0, 0, 0), ("", "i", -1), False)
        self.assert_harmless(program, END, ("n", "", 0), (0, 0, 0), ("", "i", -1), True)

    def test_turns_that_pass_and_the_turn_that_goes_out(self):
        program = Program(("n", "k"), (loop([when("i", "k", 0, [], [LEAVE]), choose([])], [OUT]),))
        # At the choose i <= k: i is at most k in turns that pass, and the turn k + 1 is left.
        self.assert_harmless(program, END, TRUE, (0, 0, 1), ("i", "k", 0), True)
        self.assert_harmless(program, END, TRUE, (0, 0, 1), ("i", "k", -1), False)
        self.assert_harmless(program, END, ("k", "", -1), (0, 0, 1), ("i", "k", -1), True)
        self.assert_harmless(program, END, TRUE, (0, 0, 0), ("i", "k", 0), False)
        self.assert_harmless(program, OUT, TRUE, (0, 0, 0), ("i", "k", 0), True)

    def test_handlers_and_always_parts(self):
        program = Program(("n",), (attempt([ask("n", "", 3)], [((), "e", (("read", "x"),))], (), [when("n", "", 5, [], [OUT])]),))
        self.assert_harmless(program, END, TRUE, (0, 1, 0), ("n", "", 5), True)
        self.assert_harmless(program, END, TRUE, (0, 1, 0), ("n", "", 4), False)
        self.assert_harmless(program, END, ("n", "", 4), (0, 1, 0), ("n", "", 4), True)
        self.assert_harmless(program, OUT, TRUE, (0, 1, 0), ("n", "", 5), False)
        self.assert_harmless(program, END, TRUE, (0, 3, 0), ("n", "", 5), True)
        self.assert_harmless(program, OUT, TRUE, (0, 3, 0), ("n", "", 6), False)
        self.assert_harmless(program, OUT, ("n", "", 6), (0, 3, 0), ("n", "", 6), True)

    def test_statements_to_which_no_run_comes(self):
        program = Program(("n",), (when("", "", -1, [("read", "x")]), attempt([], [((), None, (("read", "y"),))])))
        self.assert_harmless(program, END, TRUE, (0, 0, 0), ("", "", -1), True)
        self.assert_harmless(program, END, TRUE, (1, 1, 0), ("", "", -1), True)
        self.assert_harmless(program, END, TRUE, (0,), ("", "", -1), False)
        self.assert_harmless(program, END, TRUE, (0,), ("", "", 0), True)

    def test_ways_that_are_never_taken(self):
        program = Program(("n",), (when("", "", -1, [OUT]),))
        self.assert_harmless(program, OUT, TRUE, (0,), ("", "", -1), True)
        self.assert_harmless(program, END, ("", "", -1), (0,), ("", "", -1), True)

    def test_the_value_of_an_error(self):
        program = Program(("n",), (("read", "x"), ("raise", "late", ("x", 1))))
        self.assert_harmless(program, LATE, ("value", "n", 0), (1,), ("x", "n", -1), True)
        self.assert_harmless(program, LATE, ("value", "n", 0), (1,), ("x", "n", -2), False)

    def test_against_all_small_runs(self):
        found = {True: 0, False: 0}
        for _ in range(350):
            program = random_program(self.choice, ("n",), self.choice.choice((4, 5, 6)), 1, self.choice.choice((EVEN, TRIES, LOOPS)))
            for way in ways(program):
                wish = self.literal(known(program, way), 1)
                place = self.choice.choice(program.places())
                literal = self.literal(known_at(program, place), 1)
                answer = harmless(program, way, wish, place, literal)
                try:
                    self.assertIs(answer, not lost(program, way, wish, place, literal, 7, small_states(("n",), -6, 6)), (program.block, way, wish, place, literal))
                except TooMuch:
                    continue
                found[answer] += 1
        self.assertGreater(min(found.values()), 50)

    def test_errors_in_their_order(self):
        wished = Program(("n",), (choose([WISH]), ("read", "x")))
        for program, way, wish, place, literal, error, told in (
            (wished, OUT, None, None, None, NoWay, {"way": OUT}), (wished, END, None, None, None, NoWay, {"way": WISH}),
            (wished, WISH, None, None, None, NoWay, {"way": WISH}), (PLAIN, WISH, None, None, None, NoWay, {"way": WISH}),
            (PLAIN, END, None, None, None, NoLiterals, {"at": 0}), (PLAIN, END, ("z", "w", 0), None, None, NoName, {"term": "z"}),
            (PLAIN, END, ("n", "w", 0), None, None, NoName, {"term": "w"}), (PLAIN, END, ("n", "y", 0), (2,), None, NoPlace, {"place": (2,)}),
            (PLAIN, END, ("n", "y", 0), [0], None, NoPlace, {"place": [0]}), (PLAIN, END, ("n", "y", 0), (0,), None, NoLiterals, {"at": 0}),
            (PLAIN, END, ("n", "y", 0), (0,), ("n", "", True), NoLiterals, {"at": 0}),
            (PLAIN, END, ("n", "y", 0), (0,), ("x", "z", 0), NoName, {"term": "x"}),
            (PLAIN, END, ("n", "y", 0), (1,), ("x", "y", 0), NoName, {"term": "y"}),
        ):
            self.assert_error(error, told, harmless, program, way, wish, place, literal)

    def test_anything(self):
        for thing in odd_things():
            with self.assertRaises(NoWay):
                harmless(PLAIN, thing, None, None, None)
            with self.assertRaises(NoLiterals):
                harmless(PLAIN, END, thing, None, None)
            with self.assertRaises(NoLiterals):
                harmless(PLAIN, END, TRUE, (0,), thing)
            if not isinstance(thing, tuple):
                with self.assertRaises(NoPlace):
                    harmless(PLAIN, END, TRUE, thing, None)


class TestAsked(MendCase):
    def test_the_example(self):
        choices = (((0,), ("n", "", 0)), ((1,), ("x", "n", -1)), ((1,), ("x", "n", 0)))
        self.assertEqual(asked(PLAIN, END, ("x", "n", 0), choices), (2,))
        self.assertIsNone(asked(PLAIN, END, ("x", "n", 0), choices[:2]))

    def test_no_choices(self):
        self.assertEqual(asked(PLAIN, END, ("x", "y", -1), ()), ())
        self.assertIsNone(asked(PLAIN, END, ("x", "y", -2), ()))
        self.assertEqual(asked(PLAIN, END, ("x", "y", -1), (((0,), ("n", "", 0)),)), ())

    def test_equal_choices(self):
        choice = ((1,), ("x", "n", 0))
        self.assertEqual(asked(PLAIN, END, ("x", "n", 0), (choice, choice)), (0,))
        self.assertEqual(asked(PLAIN, END, ("x", "n", 0), (((1,), TRUE), choice, choice, ((1,), ("x", "n", 0)))), (1,))

    def test_several_at_one_place(self):
        program = Program(("n", "k"), (("read", "x"), ("read", "y")))
        choices = (((1,), ("x", "n", 0)), ((1,), ("n", "k", 0)), ((0,), ("n", "k", 0)), ((1,), ("x", "k", 2)))
        self.assertEqual(asked(program, END, ("x", "k", 0), choices), None)
        self.assertEqual(asked(program, END, ("x", "k", 2), choices), (3,))
        wish = ("x", "n", 0)
        self.assertEqual(asked(program, END, wish, choices[:1]), (0,))

    def test_tests_that_are_needed_together(self):
        program = Program(("n", "k"), (choose([("read", "x"), ("read", "a")], [("read", "x"), ("read", "b")]), ("read", "y")))
        literal = ("x", "n", 0)
        choices = (((0, 0, 1), literal), ((0, 1, 1), literal), ((1,), ("x", "n", 1)), ((0, 0, 0), TRUE))
        self.assertEqual(asked(program, END, literal, choices), (0, 1))
        self.assertEqual(asked(program, END, literal, choices[:2] + (((1,), literal),)), (2,))
        self.assertEqual(asked(program, END, literal, (choices[3], choices[1], choices[0])), (1, 2))

    def test_tests_that_take_the_way_away(self):
        program = Program(("n",), (("read", "x"), ("read", "y")))
        # No run has the wish, so no run is lost.
        self.assertEqual(asked(program, END, ("", "", -1), (((1,), ("", "", -1)),)), (0,))
        self.assertEqual(asked(program, END, ("", "", -1), (((1,), TRUE), ((0,), ("n", "n", -5)))), (1,))

    def test_loops(self):
        program = Program(("n", "k"), (loop([choose([])]),))
        # If all turns have i <= k - 1, then n <= k, or there is no turn.
        wish = ("n", "k", 0)
        self.assertEqual(asked(program, END, wish, (((0, 0, 0), ("i", "k", -1)),)), None)
        program = Program(("n", "k"), (ask("", "k", 0), loop([choose([])])))
        self.assertEqual(asked(program, END, wish, (((1, 0, 0), ("i", "k", 0)), ((1, 0, 0), ("i", "k", -1)))), (1,))

    def test_handlers_do_not_catch_a_test(self):
        block = [choose([("raise", "late", ("", 0))]), ("read", "y")]
        program = Program(("n",), (("read", "x"), attempt(block, [((), None, ())], (), [choose([])])))
        self.assertEqual(asked(program, END, ("x", "n", 0), (((1, 0, 0), ("x", "n", 0)),)), (0,))
        always = Program(("n",), (("read", "x"), loop([attempt([choose([])], (), (), [LEAVE])], (), "i", ("", 0), ("", 1))))
        # The always part changes the way out: the test is in vain.
        self.assertIsNone(asked(always, END, ("x", "n", 0), (((1, 0, 0, 0, 0), ("x", "n", 0)),)))

    def test_against_a_search_over_all_sets(self):
        sizes = {}
        for _ in range(250):
            program = random_program(self.choice, size=6, weights=self.choice.choice((EVEN, TRIES, LOOPS)))
            way = self.choice.choice(ways(program))
            wish = self.literal(known(program, way))
            places = [self.choice.choice(program.places()) for _ in range(self.choice.randint(0, 4))]
            choices = tuple((place, self.choice.choice((wish, self.literal(known_at(program, place))))) for place in places)
            choices = tuple((place, literal) for place, literal in choices if set(literal[:2]) <= set(known_at(program, place)) | {""})
            found = asked(program, way, wish, choices)
            self.assertEqual(found, self.fewest(program, way, wish, choices), (program.block, way, wish, choices))
            sizes[found if found is None else len(found)] = True
        self.assertTrue({None, 0, 1} <= set(sizes))

    def fewest(self, program, way, wish, choices):
        for many in range(len(choices) + 1):
            for chosen in combinations(range(len(choices)), many):
                if all(harmless(program, way, wish, *choices[at]) for at in chosen) and self.is_met(program, way, wish, [choices[at] for at in chosen]):
                    return chosen
        return None

    def is_met(self, program, way, wish, chosen):
        # From the last place to the first one, so that the places stay what they are.
        for place, literal in sorted(chosen, key=lambda choice: choice[0], reverse=True):
            program = put_in(program, place, test_of(literal))
        return way not in ways(program) or holds(program, way, wish)

    def test_the_program_with_the_tests_keeps_its_wished_runs(self):
        program = Program(("n",), (("read", "x"), ("set", "y", ("x", 1))))
        mended = put_in(program, (1,), test_of(("x", "n", 0)))
        for n in range(-2, 3):
            for x in range(-4, 5):
                way, values = run(program, {"n": n}, (x,))
                self.assertEqual(run(mended, {"n": n}, (x,)), (way, values) if x <= n else (WISH, {"n": n, "x": x}))

    def test_errors(self):
        right = ((1,), ("x", "n", 0))
        for choices, at in (
            (None, -1), ([right], -1), ({}, -1), (right, 0), ((right, None), 1), ((right, list(right)), 1), ((right + (0,),), 0), ((right[:1],), 0),
            ((right, ((2,), ("x", "n", 0))), 1), ((([1], ("x", "n", 0)),), 0), ((right, right, ((0,), ("x", "n", 0))), 2), ((((1,), ("x", "y", 0)),), 0),
            ((((1,), ["x", "n", 0]),), 0), ((((1,), ("x", "n", True)),), 0), ((right[::-1],), 0), ((((1,), ("x", "value", 0)),), 0),
            ((((True,), ("x", "n", 0)),), 0), ((({}, ("x", "n", 0)), None), 0),
        ):
            self.assert_error(BadChoices, {"at": at}, asked, PLAIN, END, ("x", "n", 0), choices)

    def test_errors_in_their_order(self):
        wished = Program(("n",), (choose([WISH]), ("read", "x")))
        for program, way, wish, error, told in (
            (wished, OUT, None, NoWay, {"way": OUT}), (wished, END, None, NoWay, {"way": WISH}), (wished, WISH, None, NoWay, {"way": WISH}),
            (PLAIN, END, ["x", "n", 0], NoLiterals, {"at": 0}), (PLAIN, END, ("w", "z", 0), NoName, {"term": "w"}),
            (PLAIN, END, ("n", "value", 0), NoName, {"term": "value"}), (PLAIN, END, ("n", "x", 0), BadChoices, {"at": -1}),
        ):
            self.assert_error(error, told, asked, program, way, wish, None)

    def test_anything(self):
        for thing in odd_things():
            if thing != ():
                with self.assertRaises(BadChoices) as caught:
                    asked(PLAIN, END, TRUE, thing)
                self.assertEqual(caught.exception.at, 0 if isinstance(thing, tuple) else -1)
            for choice in (thing, (thing, TRUE), ((0,), thing), ((0,), TRUE, thing)):
                if choice not in (((0,), TRUE), ((1,), TRUE)) or type(thing[0]) is not int:
                    with self.assertRaises(BadChoices) as caught:
                        asked(PLAIN, END, TRUE, (((0,), TRUE), choice))
                    self.assertEqual(caught.exception.at, 1)


if __name__ == "__main__":
    unittest.main()
