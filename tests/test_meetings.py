"""Several ways, and two programs: points 9.1 to 9.4."""

import random
import unittest
from itertools import product

from behindexits.behind import behind, can_end
from behindexits.errors import NoLiterals, NoName, NoWay, Unlike
from behindexits.facts import holds
from behindexits.meetings import alike, joined, may_join, within
from behindexits.programs import Program
from behindexits.states import States
from behindexits.ways import known, ways
from tests.cases import ErrorCase
from tests.makes import EVEN, TRIES, random_program
from tests.plain import small_states
from tests.short import END, LATE, OUT, ask, attempt, choose, loop, when
from tests.things import is_same, odd_things

BOUNDED = Program(("n", "k"), (
    when("", "k", 0, [], [("out", "low")]), loop([when("i", "k", -1, [], [("out", "over")])]),
))
OVER = ("out", "over")
LOW = ("out", "low")


def common(programs_and_ways):
    found = [set(known(program, way)) for program, way in programs_and_ways]
    return tuple(sorted(set.intersection(*found)))


def narrow(program, way, names):
    """The states behind a way over some of its names."""
    states = behind(program, way)
    for name in states.names:
        if name not in names:
            states = states.without(name)
    return states


def some_ways(choice, program, many):
    return tuple(choice.choice(ways(program)) for _ in range(many))


class MeetingCase(ErrorCase):
    def setUp(self):
        self.choice = random.Random(91)

    def programs(self, many, inputs=("n", "k")):
        for _ in range(many):
            yield random_program(self.choice, inputs, self.choice.choice((5, 7, 9)), weights=self.choice.choice((EVEN, TRIES)))


class TestJoined(MeetingCase):
    def test_the_example(self):
        found = joined(BOUNDED, (END, OVER))
        self.assertEqual(found, States(("k", "n"), ((("", "k", 0), ("n", "k", 0)), (("", "k", 0), ("k", "n", -1)))))
        self.assertEqual(found, States(("k", "n"), ((("", "k", 0),),)))
        self.assertEqual(joined(BOUNDED, (OVER,)), behind(BOUNDED, OVER))
        self.assertEqual(joined(BOUNDED, (OVER, OVER, OVER)), behind(BOUNDED, OVER))
        self.assertEqual(joined(BOUNDED, (LOW, END, OVER)), States(("k", "n"), ((),)))

    def test_ways_that_are_never_taken(self):
        program = Program(("n",), (when("", "", -1, [OUT]), ("read", "x")))
        self.assertEqual(joined(program, (OUT,)), States(("n",), ()))
        self.assertEqual(joined(program, (OUT, END)), States(("n",), ((),)))

    def test_no_name_at_all(self):
        program = Program((), (choose([("read", "x"), OUT], [choose([("read", "y"), ("raise", "late", ("y", 1))])]),))
        found = joined(program, (OUT, LATE))
        self.assertEqual(found.names, ())
        self.assertIn({}, found)
        self.assertEqual(joined(program, (LATE, END)), States((), ((),)))
        never = Program((), (when("", "", -1, [OUT]), ("read", "y")))
        self.assertNotIn({}, joined(never, (OUT,)))
        self.assertTrue(joined(never, (OUT,)).is_empty())

    def test_raises(self):
        program = Program(("n",), (ask("n", "", 3), choose([("raise", "big", ("n", 1))])))
        found = joined(program, (LATE, ("raise", "big")))
        self.assertEqual(found.names, ("n", "value"))
        for n, value in product(range(-2, 7), range(-2, 7)):
            self.assertIs({"n": n, "value": value} in found, n > 3 and value == 0 or n <= 3 and value == n + 1)
        self.assertEqual(joined(program, (LATE, END)).names, ("n",))

    def test_members(self):
        for program in self.programs(150):
            chosen = some_ways(self.choice, program, self.choice.randint(1, 4))
            found = joined(program, chosen)
            names = common([(program, way) for way in chosen])
            self.assertEqual(found.names, names)
            parts = [narrow(program, way, names) for way in chosen]
            for state in small_states(names, -2, 2) if len(names) < 4 else []:
                self.assertIs(state in found, any(state in part for part in parts))
            whole = parts[0]
            for part in parts[1:]:
                whole = whole | part
            self.assertEqual(found, whole)

    def test_errors(self):
        for call in (joined, lambda program, found: may_join(program, found, None)):
            for found in ((), [], [END], None, END[0], {END: 1}, {END}, 3, True):
                self.assert_error(NoWay, {"way": found}, call, BOUNDED, found)
            for found, way in (((OUT,), OUT), ((END, OUT, LATE), OUT), ((END, ["end"]), ["end"]), ((END, END, None), None), (("end",), "end")):
                self.assert_error(NoWay, {"way": way}, call, BOUNDED, found)

    def test_anything(self):
        for thing in odd_things():
            for call in (lambda: joined(BOUNDED, (END, thing)), lambda: may_join(BOUNDED, (END, thing), ()), lambda: within(BOUNDED, END, thing)):
                with self.assertRaises(NoWay) as caught:
                    call()
                self.assertTrue(is_same(caught.exception.way, thing))
            with self.assertRaises(NoWay) as caught:
                joined(BOUNDED, thing)
            if not isinstance(thing, tuple) or not thing:
                self.assertTrue(is_same(caught.exception.way, thing))


class TestWithin(MeetingCase):
    def test_the_example(self):
        found = within(BOUNDED, OVER, END)
        self.assertEqual(sorted(found), ["k", "n"])
        self.assertTrue(0 <= found["k"] < found["n"])
        self.assertIsNone(within(BOUNDED, END, END))
        found = within(BOUNDED, END, OVER)
        self.assertTrue(found["k"] >= 0 and found["n"] <= found["k"])

    def test_states_are_judged_by_the_sets(self):
        inside = outside = 0
        for program in self.programs(250):
            way, other = some_ways(self.choice, program, 2)
            names = common([(program, way), (program, other)])
            left, right = narrow(program, way, names), narrow(program, other, names)
            found = within(program, way, other)
            self.assertIs(found is None, left <= right)
            if found is None:
                inside += 1
            else:
                outside += 1
                self.assertIn(found, left)
                self.assertNotIn(found, right)
        self.assertGreater(min(inside, outside), 40)

    def test_no_name_at_both(self):
        program = Program((), (choose([("read", "x"), OUT], [("read", "y")]),))
        self.assertIsNone(within(program, OUT, END))
        never = Program((), (choose([("read", "x"), OUT], [("read", "y"), when("", "", -1, [("out", "no")])]),))
        self.assertEqual(within(never, OUT, ("out", "no")), {})
        self.assertIsNone(within(never, ("out", "no"), OUT))

    def test_errors(self):
        self.assert_error(NoWay, {"way": OUT}, within, BOUNDED, OUT, LATE)
        self.assert_error(NoWay, {"way": LATE}, within, BOUNDED, END, LATE)
        self.assert_error(NoWay, {"way": [END]}, within, BOUNDED, [END], None)
        self.assert_error(NoWay, {"way": {}}, within, BOUNDED, LOW, {})

    def test_what_is_returned_belongs_to_the_caller(self):
        first = within(BOUNDED, OVER, END)
        kept = dict(first)
        first["k"] = None
        self.assertEqual(within(BOUNDED, OVER, END), kept)


class TestAlike(MeetingCase):
    def assert_differs(self, one, other, way, state=None):
        """The two differ at the way, and in which states if state is true."""
        for left, right in ((one, other), (other, one)):
            found, difference = alike(left, right)
            self.assertEqual(found, way)
            if not state:
                self.assertIsNone(difference)
            else:
                names = common([(one, way), (other, way)])
                self.assertEqual(sorted(difference), sorted(names))
                self.assertIs(difference in narrow(one, way, names), difference not in narrow(other, way, names))

    def test_written_otherwise(self):
        one = Program(("n", "k"), (when("n", "k", 0, [OUT], []),))
        for block in (
            (when("k", "n", -1, [], [OUT]),), (choose([when("n", "k", 0, [OUT])], [when("n", "k", 0, [OUT])]),),
            (attempt([ask("k", "n", -1)], [((), None, (OUT,))]),), (when("n", "k", 0, [("set", "x", ("n", 0)), OUT], [("set", "y", ("", 0))]),),
        ):
            self.assertIsNone(alike(one, Program(("k", "n"), block)))
            self.assertIsNone(alike(Program(("k", "n"), block), one))
        self.assert_differs(one, Program(("n", "k"), (when("k", "n", 0, [], [OUT]),)), END, True)

    def test_the_first_difference(self):
        """Ways are looked at in ascending order."""
        one = Program(("n",), (choose([("out", "a")], [choose([("out", "b")], [("raise", "c", ("n", 0))])]),))
        two = Program(("n",), (choose([("out", "a")], [choose([ask("n", "", 0), ("out", "b")], [("raise", "c", ("n", 1))])]),))
        self.assert_differs(one, two, ("out", "b"), True)
        three = Program(("n",), (choose([("out", "a")], [choose([("out", "b")], [("raise", "c", ("n", 1))])]),))
        self.assert_differs(one, three, ("raise", "c"), True)
        self.assert_differs(one, Program(("n",), ()), END)
        self.assert_differs(Program(("n",), (("out", "ab"),)), Program(("n",), (("out", "a"),)), ("out", "a"))
        self.assert_differs(Program(("n",), (("out", "b"),)), Program(("n",), (("raise", "a", ("", 0)),)), ("out", "b"))

    def test_ways_that_neither_can_take(self):
        one = Program(("n",), (when("", "", -1, [OUT]),))
        two = Program(("n",), (when("n", "n", -1, [OUT], [when("", "", -1, [("raise", "late", ("", 0))])]),))
        self.assertIsNone(alike(one, two))
        self.assertIsNone(alike(one, Program(("n",), ())))
        self.assert_differs(one, Program(("n",), (when("n", "", 0, [OUT]),)), END, True)
        self.assert_differs(one, Program(("n",), (choose([OUT]),)), OUT)

    def test_names_that_are_known_in_one_alone(self):
        one = Program(("n",), (("read", "x"), ("set", "y", ("x", 1))))
        self.assertIsNone(alike(one, Program(("n",), (("read", "y"), ("read", "z")))))
        self.assert_differs(one, Program(("n",), (("read", "x"), ("read", "y"))), END, True)

    def test_inputs(self):
        one = Program(("n", "k"), ())
        self.assertIsNone(alike(one, Program(("k", "n"), ())))
        for inputs in (("n",), (), ("n", "k", "m"), ("n", "m")):
            self.assert_error(Unlike, {}, alike, one, Program(inputs, ()))
            self.assert_error(Unlike, {}, alike, Program(inputs, ()), one)

    def test_random_programs(self):
        different = 0
        for program in self.programs(120):
            self.assertIsNone(alike(program, Program(program.inputs[::-1], program.block)))
            other = random_program(self.choice, size=4)
            found = alike(program, other)
            wanted = self.difference(program, other)
            self.assertEqual(found and found[0], wanted and wanted[0])
            if found is not None:
                different += 1
                self.assert_differs(program, other, found[0], wanted[1])
        self.assertGreater(different, 60)

    def difference(self, one, other):
        for way in sorted(set(ways(one)) | set(ways(other))):
            ends = [way in ways(program) and can_end(program, way) for program in (one, other)]
            if ends[0] != ends[1]:
                return (way, False)
            if ends[0]:
                names = common([(one, way), (other, way)])
                if narrow(one, way, names) != narrow(other, way, names):
                    return (way, True)
        return None


class TestMayJoin(MeetingCase):
    def test_the_example(self):
        self.assertIs(may_join(BOUNDED, (END, OVER), (("", "k", 0),)), True)
        self.assertIs(may_join(BOUNDED, (END, OVER, LOW), (("", "k", 0),)), False)
        self.assertIs(may_join(BOUNDED, (END, OVER), (("", "k", 0), ("n", "k", 0))), False)
        self.assertIs(may_join(BOUNDED, (LOW, LOW), (("k", "", -1),)), True)
        self.assertIs(may_join(BOUNDED, (END, LOW), ()), True)

    def test_ways_that_are_never_taken(self):
        program = Program(("n",), (when("", "", -1, [OUT]),))
        self.assertIs(may_join(program, (OUT,), (("n", "", -99), ("", "", -1))), True)
        self.assertIs(may_join(program, (OUT, END), (("n", "", -99),)), False)

    def test_against_holds_over_joined(self):
        held = 0
        for program in self.programs(250):
            chosen = some_ways(self.choice, program, self.choice.randint(1, 3))
            states = joined(program, chosen)
            terms = ("",) + states.names
            literals = tuple((self.choice.choice(terms), self.choice.choice(terms), self.choice.randint(-1, 5)) for _ in range(self.choice.randint(0, 3)))
            wanted = all(states.holds(literal) for literal in literals)
            self.assertIs(may_join(program, chosen, literals), wanted)
            self.assertIs(wanted, all(holds(program, way, literal) for way in chosen for literal in literals))
            held += wanted and literals != ()
        self.assertGreater(held, 30)

    def test_errors(self):
        right = ("", "k", 0)
        for literals, at in ((None, -1), ([right], -1), ({}, -1), ((right, None), 1), ((right, ("", "k", True)), 1), (("", "k", 0), 0)):
            self.assert_error(NoLiterals, {"at": at}, may_join, BOUNDED, (END, OVER), literals)
        for literals, term in (
            ((right, ("i", "j", 0)), "i"), ((("k", "i", 0), ("j", "k", 0)), "i"), ((("value", "", 0),), "value"), ((right, right, ("", "", 0), ("k", "x y", 1)), "x y"),
        ):
            self.assert_error(NoName, {"term": term}, may_join, BOUNDED, (END, OVER), literals)
        self.assert_error(NoLiterals, {"at": 1}, may_join, BOUNDED, (END,), (("i", "j", 0), ("k", "n")))
        self.assert_error(NoWay, {"way": OUT}, may_join, BOUNDED, (END, OUT), None)
        self.assertIs(may_join(BOUNDED, (OVER,), (("i", "n", -1),)), True)

    def test_anything(self):
        for thing in odd_things():
            if thing not in ((), (("", "", 0),)):
                with self.assertRaises(NoLiterals):
                    may_join(BOUNDED, (END,), thing)
            with self.assertRaises(NoLiterals) as caught:
                may_join(BOUNDED, (END,), (("n", "k", 0), thing))
            self.assertEqual(caught.exception.at, 1)


if __name__ == "__main__":
    unittest.main()
