"""Places: points 11.1 to 11.3."""

import random
import unittest

from behindexits.behind import coming
from behindexits.errors import BadChoices, BadProgram, NoLiterals, NoName, NoPlace, TooFew, TooLong
from behindexits.forms import blocks_of
from behindexits.places import dropped, holds_at, needless
from behindexits.programs import Program
from behindexits.runs import run
from behindexits.ways import known_at
from tests.cases import ErrorCase
from tests.makes import EVEN, TRIES, random_program
from tests.plain import small_states
from tests.plainmeets import Meets, TooMuch
from tests.short import AGAIN, LEAVE, OUT, ask, attempt, choose, loop, when
from tests.things import is_same, odd_things

FAR = Program(("n",), (loop([ask("i", "n", -1, "far"), ask("i", "", 9, "big")]),))
LOOPS = dict(EVEN, **{"for": 5, "ask": 5})


class PlacesCase(ErrorCase):
    def setUp(self):
        self.choice = random.Random(111)


class TestHoldsAt(PlacesCase):
    def test_by_hand(self):
        for place, literal, wanted in (
            ((0, 0, 0), ("i", "n", -1), True), ((0, 0, 0), ("i", "n", -2), False), ((0, 0, 0), ("", "i", 0), True),
            ((0, 0, 1), ("i", "", 10), True), ((0, 0, 1), ("i", "", 9), False), ((0,), ("n", "n", 0), True), ((0,), ("n", "", 0), False),
            ((0, 0, 0), ("", "n", -1), True),
        ):
            self.assertIs(holds_at(FAR, place, literal), wanted, (place, literal))

    def test_no_run_comes(self):
        program = Program(("n",), (when("", "", -1, [("read", "x")]), attempt([], [((), None, (("read", "y"),))])))
        self.assertIs(holds_at(program, (0, 0, 0), ("", "", -1)), True)
        self.assertIs(holds_at(program, (1, 1, 0), ("n", "", -99)), True)
        self.assertIs(holds_at(program, (1,), ("", "", -1)), False)

    def test_against_coming(self):
        held = 0
        for _ in range(200):
            program = random_program(self.choice, size=7, weights=self.choice.choice((EVEN, TRIES, LOOPS)))
            for place in program.places():
                terms = ("",) + tuple(known_at(program, place))
                literal = (self.choice.choice(terms), self.choice.choice(terms), self.choice.randint(-3, 3))
                wanted = coming(program, place).holds(literal)
                self.assertIs(holds_at(program, place, literal), wanted)
                held += wanted
        self.assertGreater(held, 300)

    def test_errors_in_their_order(self):
        for place, literal, error, told in (
            ((1,), None, NoPlace, {"place": (1,)}), ([0], None, NoPlace, {"place": [0]}), ((0, True, 0), None, NoPlace, {"place": (0, True, 0)}),
            ((0,), None, NoLiterals, {"at": 0}), ((0,), ["n", "", 0], NoLiterals, {"at": 0}), ((0,), ("n", "", True), NoLiterals, {"at": 0}),
            ((0,), ("i", "j", 0), NoName, {"term": "i"}), ((0, 0, 0), ("i", "j", 0), NoName, {"term": "j"}),
            ((0, 0, 0), ("value", "", 0), NoName, {"term": "value"}),
        ):
            self.assert_error(error, told, holds_at, FAR, place, literal)

    def test_anything(self):
        for thing in odd_things():
            if not (isinstance(thing, tuple) and thing == (0,) and type(thing[0]) is int):
                with self.assertRaises(NoPlace) as caught:
                    holds_at(FAR, thing, None)
                self.assertTrue(is_same(caught.exception.place, thing))
            with self.assertRaises(NoLiterals):
                holds_at(FAR, (0,), thing)


class TestNeedless(PlacesCase):
    def check(self, block, asks, blocks, inputs=("n",)):
        self.assertEqual(needless(Program(inputs, tuple(block))), (asks, blocks))

    def test_the_example(self):
        self.assertEqual(needless(FAR), ([(0, 0, 0)], []))

    def test_if_and_choose(self):
        self.check([when("n", "", 3, [when("n", "", 4, [], [])], [when("n", "", 3, [], [])])], [], [((0, 0, 0), 1), ((0, 1, 0), 0)])
        self.check([choose([], [choose([])])], [], [])

    def test_asks_to_which_no_run_comes(self):
        self.check([when("", "", -1, [ask("n", "", 0)])], [(0, 0, 0)], [((0,), 0)])
        self.check([ask("", "", -1), ask("n", "", 0)], [(1,)], [])
        self.check([ask("n", "", 0), ask("n", "", 1), ask("n", "", -1)], [(1,)], [])

    def test_loops(self):
        self.check([loop([], [], high=("", 0))], [], [((0,), 0)])
        self.check([loop([], [], high=("", 1))], [], [])
        self.check([loop([LEAVE], [choose([])], high=("", 1))], [], [((0,), 1), ((0, 1, 0), 0), ((0, 1, 0), 1)])
        self.check([loop([when("i", "", 4, [], [choose([])]), when("i", "", 3, [], [LEAVE])])], [], [((0, 0, 0), 1), ((0, 0, 0, 1, 0), 0), ((0, 0, 0, 1, 0), 1)])
        self.check([loop([choose([OUT])], [ask("n", "", 0)])], [], [])

    def test_tries(self):
        self.check([attempt([ask("n", "", 0)], [((), "e", ()), (("late",), None, (choose([]),))], [], [])], [], [((0,), 2), ((0, 2, 0), 0), ((0, 2, 0), 1)])
        self.check([attempt([ask("n", "n", 0)], [((), "e", (ask("e", "n", 0),))])], [(0, 0, 0), (0, 1, 0)], [((0,), 1)])
        self.check([attempt([ask("", "", -1)], [(("big",), "e", ())], [choose([])], [choose([])])], [], [((0,), 1), ((0,), 2), ((0, 2, 0), 0), ((0, 2, 0), 1)])
        self.check([attempt([OUT], (), (), [choose([])])], [], [((0,), 1)])
        self.check([when("", "", -1, [attempt([])])], [], [((0,), 0), ((0, 0, 0), 0), ((0, 0, 0), 1), ((0, 0, 0), 2)])

    def test_always_parts_are_begun_by_what_goes_out(self):
        self.check([loop([attempt([choose([LEAVE], [OUT])], (), (), [when("i", "", 0, [], [])])])], [], [((0, 0, 0), 1), ((0, 0, 0, 2, 0), 1)])

    def test_no_statements(self):
        self.check([], [], [])
        self.check([("read", "x"), OUT], [], [])

    def test_against_all_small_runs(self):
        seen = {"asks": 0, "blocks": 0}
        for _ in range(300):
            program = random_program(self.choice, ("n",), self.choice.choice((4, 6, 7)), 1, self.choice.choice((EVEN, TRIES, LOOPS)))
            try:
                runs = Meets(program, 7, small_states(("n",), -5, 5))
            except TooMuch:
                continue
            asks, blocks = needless(program)
            places = program.places()
            self.assertEqual(asks, sorted(place for place in places if program[place][0] == "ask" and place not in runs.failed))
            numbers = [(place, number) for place in places for number in range(len(blocks_of(program[place])))]
            self.assertEqual(blocks, sorted((place, number) for place, number in numbers if place + (number,) not in runs.begun))
            seen["asks"] += len(asks)
            seen["blocks"] += len(blocks)
        self.assertGreater(min(seen.values()), 100)

    def test_many_places_are_in_ascending_order(self):
        block = tuple(when("", "", -1, [ask("n", "", at)]) for at in range(12))
        self.check(block, [(at, 0, 0) for at in range(12)], [((at,), 0) for at in range(12)])

    def test_lists_belong_to_the_caller(self):
        asks, blocks = needless(FAR)
        asks.append(1)
        blocks.append(2)
        self.assertEqual(needless(FAR), ([(0, 0, 0)], []))


class TestDropped(PlacesCase):
    def test_by_hand(self):
        self.assertEqual(dropped(FAR, ((0, 0, 0),)), Program(("n",), (loop([ask("i", "", 9, "big")]),)))
        self.assertEqual(dropped(FAR, ((0, 0, 1), (0, 0, 0), (0, 0, 1))), Program(("n",), (loop([]),)))
        self.assertEqual(dropped(FAR, ()), FAR)

    def test_everywhere(self):
        one = ask("n", "", 0)
        block = (one, when("n", "", 1, [one, ("read", "x")], [one]), choose([one], [one, one]), loop([AGAIN], [one]), attempt([one], [((), "e", (one,))], [one], [one]), one)
        program = Program(("n",), block)
        asks = tuple(place for place in program.places() if program[place][0] == "ask")
        self.assertEqual(len(asks), 12)
        for place in asks:
            self.assertEqual(dropped(program, (place,)).block, self.rebuilt(block, (), [place]))
        none = (when("n", "", 1, [("read", "x")], []), choose([], []), loop([AGAIN], []), attempt([], [((), "e", ())], [], []))
        self.assertEqual(dropped(program, asks[::-1]), Program(("n",), none))

    def test_against_a_plain_rebuilding(self):
        dropped_ones = 0
        for _ in range(300):
            program = random_program(self.choice, size=8, weights=self.choice.choice((LOOPS, TRIES)))
            asks = [place for place in program.places() if program[place][0] == "ask"]
            chosen = [place for place in asks if self.choice.random() < 0.6]
            chosen += self.choice.sample(chosen, len(chosen) // 2)
            self.choice.shuffle(chosen)
            block = self.rebuilt(program.block, (), chosen)
            try:
                wanted = Program(program.inputs, block)
            except BadProgram as error:
                self.assert_error(BadProgram, vars(error), dropped, program, tuple(chosen))
                continue
            self.assertEqual(dropped(program, tuple(chosen)), wanted)
            dropped_ones += len(set(chosen))
        self.assertGreater(dropped_ones, 200)

    def rebuilt(self, block, before, gone):
        found = []
        for index, statement in enumerate(block):
            place = before + (index,)
            if place in gone:
                continue
            word = statement[0]
            if word in ("if", "choose"):
                parts = [self.rebuilt(part, place + (at,), gone) for at, part in enumerate(statement[-2:])]
                statement = statement[:-2] + tuple(parts)
            elif word == "for":
                statement = statement[:4] + (self.rebuilt(statement[4], place + (0,), gone), self.rebuilt(statement[5], place + (1,), gone))
            elif word == "try":
                _, body, handlers, other, always = statement
                many = len(handlers)
                handlers = tuple((kinds, name, self.rebuilt(part, place + (1 + at,), gone)) for at, (kinds, name, part) in enumerate(handlers))
                statement = (word, self.rebuilt(body, place + (0,), gone), handlers, self.rebuilt(other, place + (1 + many,), gone), self.rebuilt(always, place + (2 + many,), gone))
            found.append(statement)
        return tuple(found)

    def test_the_rest_is_no_program(self):
        block = (attempt([ask("n", "", 0), OUT], [((), None, ())]), ("read", "x"))
        program = Program(("n",), block)
        self.assert_error(BadProgram, {"place": (1,), "why": "dead"}, dropped, program, ((0, 0, 0),))

    def test_without_the_asks_that_never_fail(self):
        """The runs are the same."""
        fewer = 0
        for _ in range(400):
            program = random_program(self.choice, ("n",), 7, 1, self.choice.choice((LOOPS, TRIES)))
            asks = needless(program)[0]
            try:
                other = dropped(program, tuple(asks))
            except BadProgram:
                continue
            for _ in range(12 if asks else 0):
                inputs = {"n": self.choice.randint(-3, 5)}
                answers = tuple(self.choice.randint(-2, 2) for _ in range(12))
                fewer += 1
                try:
                    way, values = run(program, inputs, answers)
                except (TooLong, TooFew):
                    continue
                past, others = run(other, inputs, answers)
                self.assertEqual(past, way)
                both = set(values) & set(others)
                self.assertEqual({name: values[name] for name in both}, {name: others[name] for name in both})
        self.assertGreater(fewer, 500)

    def test_errors(self):
        right = (0, 0, 0)
        for places, at in (
            (None, -1), ([right], -1), ({}, -1), (right, 0), ((right, None), 1), ((right, (0,)), 1), ((right, right, (0, 0, 2)), 2), ((list(right),), 0),
            (((0, False, 0),), 0), ((right, ()), 1), (("0",), 0), (((0, 0, 1), right, {}), 2),
        ):
            self.assert_error(BadChoices, {"at": at}, dropped, FAR, places)

    def test_anything(self):
        for thing in odd_things():
            if thing != ():
                with self.assertRaises(BadChoices) as caught:
                    dropped(FAR, thing)
                self.assertEqual(caught.exception.at, 0 if isinstance(thing, tuple) else -1)
            with self.assertRaises(BadChoices) as caught:
                dropped(FAR, ((0, 0, 0), thing))
            self.assertEqual(caught.exception.at, 1)


if __name__ == "__main__":
    unittest.main()
