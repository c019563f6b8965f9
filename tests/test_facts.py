"""What holds behind the ways, and which turns pass: points 7.1 to 7.4."""

import random
import time
import unittest
from itertools import product

from behindexits.behind import behind, can_end
from behindexits.errors import BehindError, Never, NoLiterals, NoName, NoPlace, NoValues, NoWay
from behindexits.covers import case_of
from behindexits.facts import holds, is_whole, passes, tightest
from behindexits.programs import Program
from behindexits.turns import bounds_of, stretches_of
from behindexits.states import States
from behindexits.ways import known, known_at, ways
from behindexits.zones import met_all, whole
from tests.makes import EVEN, TRIES, random_program
from tests.plain import small_states
from tests.plainsets import Sets, TooMuch, number, over
from tests.short import END, LATE, OUT, ZERO, ask, choose, loop, when
from tests.things import frozen, odd_things

BIG = 10 ** 99
MOST_SECONDS = 20


HOLE = Program(("n",), (loop([when("i", "", 2, [], [when("", "i", -5, [], [("out", "hole")])])]),))
LATER = Program(("n", "k"), (loop([ask("i", "k", -1)]),))
SEARCH = Program(("n",), (loop([choose([("leave",)])], [("set", "i", ("", -1))]),))
NEVER = Program(("n",), (when("n", "n", 0, [], [OUT]),))


class FactsCase(unittest.TestCase):
    def assert_raises(self, error, values, call, *arguments):
        with self.assertRaises(error) as caught:
            call(*arguments)
        self.assertIs(type(caught.exception), error)
        for name, value in values.items():
            self.assertIs(getattr(caught.exception, name), value)

    def assert_first(self, wanted, call, *arguments):
        """The error's name, whatever its values."""
        with self.assertRaises(BehindError) as caught:
            call(*arguments)
        self.assertEqual(type(caught.exception).__name__, wanted)

    def programs(self, seed, many):
        choice = random.Random(seed)
        for _ in range(many):
            inputs = choice.choice(((), ("n",), ("n", "k")))
            yield choice, random_program(choice, inputs, choice.randint(3, 16), 2, choice.choice((EVEN, TRIES)))


class TestHolds(FactsCase):
    def test_examples(self):
        for literal, wanted in (
            (("", "i", 1), True), (("", "i", 0), False), (("i", "n", -1), False), (("i", "n", 1000), False), (("i", "i", 0), True),
            (("i", "i", -1), False), (("", "", 0), True), (("", "", -1), False), (("n", "", BIG), False),
        ):
            self.assertIs(holds(SEARCH, END, literal), wanted)
        for literal, wanted in (
            (("value", "", 0), True), (("", "value", 0), True), (("value", "", -1), False), (("k", "n", -1), True),
            (("k", "n", -2), False), (("", "n", -1), True), (("", "n", -2), False),
        ):
            self.assertIs(holds(LATER, LATE, literal), wanted)

    def test_a_way_that_is_never_taken(self):
        for literal in (("n", "", -BIG), ("n", "n", -1), ("", "", -1)):
            self.assertIs(holds(NEVER, OUT, literal), True)
        self.assertIs(holds(NEVER, END, ("n", "n", -1)), False)

    def test_against_the_sets(self):
        for choice, program in self.programs(111, 120):
            for way in ways(program):
                states = behind(program, way)
                terms = ("",) + states.names
                for _ in range(6):
                    literal = (choice.choice(terms), choice.choice(terms), choice.randint(-3, 3))
                    self.assertIs(holds(program, way, literal), states <= States(states.names, ((literal,),)))

    def test_errors(self):
        for thing in odd_things() + [("out", "hole")]:
            self.assert_raises(NoWay, {"way": thing}, holds, LATER, thing, ("n", "", 0))
            self.assert_raises(NoWay, {"way": thing}, holds, LATER, thing, None)
        zero = NoLiterals, {"at": 0}
        for thing in odd_things() + [["n", "", 0], ("n", "", False), ("n", 0), ("n", "", 0, 0), (None, "", 0), ("n", b"", 0)]:
            if not (isinstance(thing, tuple) and len(thing) == 3 and type(thing[2]) is int and thing[1] == ""):
                self.assert_raises(*zero, holds, LATER, LATE, thing)
                self.assert_raises(*zero, holds, NEVER, OUT, thing)
        for literal, term in (
            (("i", "x", 0), "i"), (("n", "i", 0), "i"), (("value", "i", 0), "i"), (("", "x y", 0), "x y"), (("N", "i", 0), "N"),
        ):
            self.assert_first("NoName", holds, LATER, LATE, literal)
            with self.assertRaises(NoName) as caught:
                holds(LATER, LATE, literal)
            self.assertEqual(caught.exception.term, term)
        self.assert_first("NoName", holds, LATER, END, ("value", "", 0))
        self.assert_first("NoName", holds, NEVER, OUT, ("k", "", 0))

    def test_which_comes_first(self):
        self.assert_first("NoWay", holds, LATER, OUT, ("x", "", True))
        self.assert_first("NoLiterals", holds, LATER, END, ("x", "", True))
        self.assert_first("NoName", holds, LATER, END, ("x", "", 0))


class TestTightest(FactsCase):
    def test_examples(self):
        self.assertEqual(tightest(HOLE, END), {("", "n"): None, ("n", ""): 3})
        self.assertEqual(tightest(HOLE, ("out", "hole")), {
            ("", "i"): -3, ("i", ""): 3, ("", "n"): -4, ("n", ""): None, ("i", "n"): -1, ("n", "i"): None,
        })
        self.assertEqual(tightest(SEARCH, END), {
            ("", "i"): 1, ("i", ""): None, ("", "n"): None, ("n", ""): None, ("i", "n"): None, ("n", "i"): None,
        })
        self.assertEqual(tightest(LATER, LATE), {
            ("", "k"): None, ("k", ""): None, ("", "n"): -1, ("n", ""): None, ("", "value"): 0, ("value", ""): 0, ("k", "n"): -1,
            ("n", "k"): None, ("k", "value"): None, ("value", "k"): None, ("n", "value"): None, ("value", "n"): -1,
        })

    def test_no_names(self):
        self.assertEqual(tightest(Program((), ()), END), {})
        self.assertEqual(tightest(Program((), (("raise", "late", ("", -7)),)), LATE), {("", "value"): 7, ("value", ""): -7})

    def test_numbers_of_many_digits(self):
        program = Program(("n",), (ask("n", "", BIG), ask("", "n", BIG), ("set", "x", ("n", BIG))))
        self.assertEqual(tightest(program, END), {
            ("", "n"): BIG, ("n", ""): BIG, ("", "x"): 0, ("x", ""): 2 * BIG, ("n", "x"): -BIG, ("x", "n"): BIG,
        })

    def test_several_cases(self):
        """The least number of all cases together, and None if one of them has no end."""
        program = Program(("n",), (choose([("set", "x", ("n", 1))], [choose([("set", "x", ("n", 9))], [("set", "x", ("n", -4))])]),))
        self.assertEqual(tightest(program, END), {
            ("", "n"): None, ("n", ""): None, ("", "x"): None, ("x", ""): None, ("x", "n"): 9, ("n", "x"): 4,
        })
        program = Program(("n",), (choose([("set", "x", ("n", 1))], [("read", "x"), ask("x", "n", 0)]),))
        self.assertEqual((tightest(program, END)[("x", "n")], tightest(program, END)[("n", "x")]), (1, None))

    def test_against_the_sets(self):
        for choice, program in self.programs(112, 150):
            for way in ways(program):
                states = behind(program, way)
                if states.is_empty():
                    self.assert_raises(Never, {"way": way}, tightest, program, way)
                    self.assert_raises(Never, {"way": way}, is_whole, program, way)
                    continue
                found = tightest(program, way)
                terms = ("",) + states.names
                wanted = {(left, right): states.bound(left, right) for left in terms for right in terms if left != right}
                self.assertEqual(found, wanted)
                row = tuple(pair + (most,) for pair, most in found.items() if most is not None)
                self.assertIs(is_whole(program, way), States(states.names, (row,)) == states)

    def test_least_numbers_of_small_sets(self):
        """All names are from -2 to 2, so the plain states are all there are."""
        choice = random.Random(113)
        done = 0
        while done < 150:
            program = random_program(choice, ("n", "k"), choice.randint(3, 12), 1, choice.choice((EVEN, TRIES)))
            for way in ways(program):
                names = known(program, way)
                if way == END:
                    bounds = tuple(ask(name, "", 2, "last") for name in names) + tuple(ask("", name, 2, "last") for name in names)
                    boxed = Program(program.inputs, program.block + bounds)
                    try:
                        sets = Sets(boxed, 7, list(small_states(program.inputs, -2, 2)))
                    except TooMuch:
                        continue
                    self.assert_least(boxed, [dict(zip(names, state)) for state in over(sets.behind.get(END, set()), names)])
                    done += 1

    def assert_least(self, program, states):
        self.assertIs(can_end(program, END), bool(states), program.block)
        if states:
            names = known(program, END)
            terms = [""] + names
            wanted = {}
            for left, right in product(terms, repeat=2):
                if left != right:
                    wanted[(left, right)] = max(number(state, (left, 0)) - number(state, (right, 0)) for state in states)
            self.assertEqual(tightest(program, END), wanted, program.block)
            whole = all(
                state in states for state in small_states(names, -2, 2)
                if all(number(state, (left, 0)) <= number(state, (right, most)) for (left, right), most in wanted.items())
            )
            self.assertIs(is_whole(program, END), whole, program.block)

    def test_is_whole(self):
        self.assertIs(is_whole(HOLE, END), True)
        self.assertIs(is_whole(HOLE, ("out", "hole")), True)
        self.assertIs(is_whole(SEARCH, END), False)
        self.assertIs(is_whole(LATER, END), False)
        self.assertIs(is_whole(LATER, LATE), True)
        self.assertIs(is_whole(Program((), ()), END), True)
        for far, wanted in ((1, True), (2, False)):
            program = Program(("n",), (choose([ask("n", "", 0)], [ask("", "n", -far), ask("n", "", far + 3)]),))
            self.assertIs(is_whole(program, END), wanted)

    def test_errors(self):
        for call in (tightest, is_whole):
            for thing in odd_things() + [("out", "done"), ("raise", "big"), ["end"]]:
                self.assert_raises(NoWay, {"way": thing}, call, LATER, thing)
            way = ("out", "done")
            self.assert_raises(Never, {"way": way}, call, NEVER, way)

    def test_dicts_are_new(self):
        tightest(HOLE, END).clear()
        self.assertEqual(tightest(HOLE, END), {("", "n"): None, ("n", ""): 3})


class TestPasses(FactsCase):
    def assert_passes(self, body, values, wanted, low=ZERO, high=("n", 0)):
        program = Program(tuple(values), (loop(body, (), "i", low, high),))
        copy = frozen(values)
        self.assertEqual(passes(program, (0,), values), wanted)
        self.assertEqual(values, copy)

    def test_example(self):
        self.assertEqual(passes(HOLE, (0,), {"n": 4}), [(None, 3), (5, None)])
        self.assertEqual(passes(HOLE, (0,), {"n": -4}), [(None, 3), (5, None)])

    def test_all_and_none(self):
        for body in ([], [("read", "x")], [("again",)], [choose([OUT])], [("read", "x"), ask("x", "i", 0)]):
            self.assert_passes(body, {"n": 3}, [(None, None)])
        for body in ([OUT], [("leave",)], [("raise", "late", ZERO)], [ask("i", "i", -1)], [ask("n", "", 2)],
                     [("read", "x"), ask("x", "i", 0), ask("i", "x", -1)]):
            self.assert_passes(body, {"n": 3}, [])

    def test_from_and_up_to_a_number(self):
        self.assert_passes([ask("i", "n", -1)], {"n": 3}, [(None, 3)])
        self.assert_passes([ask("n", "i", -1)], {"n": 3}, [(4, None)])
        self.assert_passes([ask("n", "i", -1), ask("i", "k", 0)], {"n": 3, "k": 9}, [(4, 10)])
        self.assert_passes([ask("n", "i", -1), ask("i", "k", 0)], {"n": 3, "k": 4}, [(4, 5)])
        self.assert_passes([ask("n", "i", -1), ask("i", "k", 0)], {"n": 3, "k": 3}, [])

    def test_holes(self):
        body = [when("i", "", 2, [], [when("", "i", -5, [when("i", "n", 0, [], [when("n", "i", -3, [], [OUT])])], [OUT])])]
        self.assert_passes(body, {"n": 7}, [(None, 3), (5, 8), (10, None)])
        self.assert_passes(body, {"n": 4}, [(None, 3), (7, None)])
        self.assert_passes(body, {"n": 5}, [(None, 3), (5, 6), (8, None)])
        self.assert_passes(body, {"n": 2}, [(None, 3), (5, None)])

    def test_stretches_that_touch_are_one(self):
        body = [choose([ask("i", "", 4)], [ask("", "i", -5), ask("i", "", 8)])]
        self.assert_passes(body, {"n": 0}, [(None, 9)])
        body = [choose([ask("i", "", 4)], [ask("", "i", -6), ask("i", "", 8)])]
        self.assert_passes(body, {"n": 0}, [(None, 5), (6, 9)])
        body = [choose([ask("i", "", 4)], [ask("", "i", -2), ask("i", "", 8)])]
        self.assert_passes(body, {"n": 0}, [(None, 9)])
        body = [choose([ask("i", "", 4)], [ask("", "i", -5)])]
        self.assert_passes(body, {"n": 0}, [(None, None)])

    def test_the_loop_s_bounds_are_not_looked_at(self):
        for low, high in ((ZERO, ZERO), (("", 9), ("", -9)), (("n", 0), ("n", 1))):
            self.assert_passes([ask("i", "n", -1)], {"n": 3}, [(None, 3)], low, high)

    def test_numbers_of_many_digits(self):
        self.assert_passes([ask("i", "n", 1), ask("k", "i", BIG)], {"n": BIG, "k": -BIG}, [(-2 * BIG, BIG + 2)])

    def test_inner_loops_and_tries(self):
        inner = loop([ask("j", "k", 0)], (), "j", ("n", 0), ("i", 0))
        self.assert_passes([inner], {"n": 2, "k": 5}, [(None, 7)])
        self.assert_passes([inner], {"n": 2, "k": 1}, [(None, 3)])
        caught = ("try", (inner,), ((("late",), "e", (ask("", "i", -9),)),), (), ())
        self.assert_passes([caught], {"n": 2, "k": 5}, [(None, 7), (9, None)])
        self.assert_passes([("try", (OUT,), (), (), (when("i", "", 3, [("again",)]),))], {"n": 0}, [(None, 4)])
        left = loop([ask("j", "k", 0), choose([("leave",)])], (), "j", ("n", 0), ("i", 0))
        self.assert_passes([left], {"n": 2, "k": 2}, [(None, None)])

    def test_loops_that_stand_within(self):
        program = Program(("n",), (("read", "x"), loop([loop([ask("j", "i", 1), ask("x", "j", 0)], (), "j")])))
        self.assertEqual(passes(program, (1, 0, 0), {"n": 9, "x": -3, "i": 4}), [(-3, 6)])
        self.assertEqual(passes(program, (1, 0, 0), {"n": 9, "x": 5, "i": 4}), [(5, 6)])
        self.assertEqual(passes(program, (1,), {"n": 9, "x": -3}), [(7, None)])
        self.assertEqual(passes(program, (1,), {"n": 9, "x": 1}), [])
        self.assertEqual(passes(program, (1,), {"n": 0, "x": 1}), [(None, None)])

    def test_loops_to_which_no_run_comes(self):
        program = Program(("n",), (ask("", "", -1), loop([ask("i", "n", 0)])))
        self.assertEqual(passes(program, (1,), {"n": 2}), [(None, 3)])
        program = Program(("n",), (("try", (), (((), "e", (loop([ask("i", "e", 0)]),)),), (), ()),))
        self.assertEqual(passes(program, (0, 1, 0), {"n": 2, "e": 6}), [(None, 7)])

    def test_against_a_plain_try_of_each_turn(self):
        choice = random.Random(114)
        done = 0
        while done < 400:
            program = random_program(choice, ("n", "k"), choice.randint(3, 14), 1, choice.choice((EVEN, TRIES)))
            for place in program.places():
                if program[place][0] == "for":
                    values = {name: choice.randint(-2, 2) for name in known_at(program, place)}
                    try:
                        self.assert_turns(program, place, values)
                        done += 1
                    except TooMuch:
                        pass

    def assert_turns(self, program, place, values):
        found = passes(program, place, values)
        self.assert_stretches(found)
        plain = Sets(program, 8, [], 20000)
        for turn in range(-6, 7):
            ends = plain.block(program[place][4], place + (0,), {**values, program[place][1]: turn})
            passed = any(way in (END, ("again",)) for way, _ in ends)
            told = any((first is None or first <= turn) and (last is None or turn < last) for first, last in found)
            self.assertIs(told, passed, (program.block, place, values, turn))

    def assert_stretches(self, found):
        """In ascending order, none empty, and no two that touch."""
        self.assertIs(type(found), list)
        for first, last in found:
            self.assertTrue(first is None or last is None or first < last)
        for (_, last), (first, _) in zip(found, found[1:]):
            self.assertLess(last, first)

    def test_no_place(self):
        program = Program(("n",), (loop([ask("n", "i", 0)]), ("read", "x")))
        for thing in odd_things() + [(1,), (0, 0, 0), (2,), (0, 0), (False,), [0]]:
            if thing != (0,) or isinstance(thing[0], bool):
                self.assert_raises(NoPlace, {"place": thing}, passes, program, thing, {"n": 1})
                self.assert_raises(NoPlace, {"place": thing}, passes, program, thing, None)

    def test_wrong_values(self):
        program = Program(("n", "k"), (loop([ask("n", "i", 0)]),))
        for thing in odd_things():
            self.assert_raises(NoValues, {}, passes, program, (0,), thing)
            if not isinstance(thing, int) or isinstance(thing, bool):
                self.assert_raises(NoValues, {}, passes, program, (0,), {"n": 1, "k": thing})
        for values in ({"n": 1}, {"n": 1, "i": 2}, {"n": 1, "k": 2, "i": 3}, {"n": 1, 0: 1}, {}, [("n", 1), ("k", 2)]):
            self.assert_raises(NoValues, {}, passes, program, (0,), values)

    def test_lists_are_new(self):
        passes(HOLE, (0,), {"n": 4}).clear()
        self.assertEqual(passes(HOLE, (0,), {"n": 4}), [(None, 3), (5, None)])


class TestStretches(FactsCase):
    def test_parts_that_overlap(self):
        """However the turns that pass are found, stretches that touch are one."""
        for strips, wanted in (
            ([(0, 5), (3, 9)], [(0, 10)]), ([(3, 9), (0, 5)], [(0, 10)]), ([(0, 9), (3, 5)], [(0, 10)]),
            ([(0, 4), (5, 9), (11, 11)], [(0, 10), (11, 12)]), ([(None, 4), (2, None)], [(None, None)]),
            ([(None, 4), (None, 7), (9, None), (10, 20)], [(None, 8), (9, None)]), ([(None, None), (3, 4)], [(None, None)]), ([], []),
        ):
            parts = [(met_all(whole(1), self.bounds(strip)), ()) for strip in strips]
            self.assertEqual(self.stretches(parts), wanted)

    def test_parts_with_clauses(self):
        """Bounds that mean nothing, because a clause says more, end no stretch."""
        zone = met_all(whole(1), self.bounds((0, 9)))
        for literals, wanted in (
            (((1, 0, 3), (0, 1, -6)), [(0, 4), (6, 10)]), (((1, 0, 6), (0, 1, -3)), [(0, 10)]), (((1, 0, -1), (0, 1, -10)), []),
        ):
            self.assertEqual(self.stretches([(zone, ((literals, ()),))]), wanted)

    def stretches(self, parts):
        case = ((), (((), tuple(case_of(part) for part in parts)),))
        return stretches_of(case, bounds_of(case, 1), 1, [0, 0])

    def bounds(self, strip):
        low, high = strip
        return ([] if low is None else [(0, 1, -low)]) + ([] if high is None else [(1, 0, high)])


class TestSizes(FactsCase):
    def setUp(self):
        self.begun = time.perf_counter()

    def tearDown(self):
        self.assertLess(time.perf_counter() - self.begun, MOST_SECONDS)

    def look(self, program):
        for way in ways(program):
            if can_end(program, way):
                states = behind(program, way)
                found = tightest(program, way)
                for (left, right), most in list(found.items())[::7]:
                    self.assertEqual(states.bound(left, right), most)
                    if most is not None:
                        self.assertIs(holds(program, way, (left, right, most)), True)
                        self.assertIs(holds(program, way, (left, right, most - 1)), False)
                self.assertIs(type(is_whole(program, way)), bool)
        for place in program.places():
            if program[place][0] == "for":
                self.assertIs(type(passes(program, place, {name: 1 for name in known_at(program, place)})), list)

    def test_many_choices(self):
        block, before = (), "n"
        for at, name in enumerate("abcdefghij"):
            block += (choose([("set", name, (before, at))], [("set", name, ("k", -at))]),)
            before = name
        self.look(Program(("n", "k", "m"), block))

    def test_intervals(self):
        bounds = [("a", "b"), ("c", "d"), ("e", "f"), ("g", "m")]
        body = [when(low, "x", 0, [when("x", high, 0, [("again",)])]) for low, high in bounds] + [OUT]
        self.look(Program(("n", "k", "m"), tuple(("read", name) for name in "abcdefg") + (loop(body, (), "x", ("n", 0), ("k", 0)),)))

    def test_random_ones(self):
        choice = random.Random(115)
        for _ in range(40):
            self.look(random_program(choice, ("n", "k", "m"), 30, choice.choice((0, 3, BIG)), choice.choice((EVEN, TRIES))))


if __name__ == "__main__":
    unittest.main()
