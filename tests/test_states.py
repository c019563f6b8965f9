"""Sets of states: points 2.1, 2.2, 2.4 and 2.5, and what may be asked by `in` and ==."""

import random
import unittest

from behindexits.differences import solved
from behindexits.errors import BadStates, NoLiterals, NoName, NoStates
from behindexits.states import States
from tests.plain import fits_rows, number_of, random_rows, small_states
from tests.things import frozen, odd_things

BIG = 10 ** 99
NAME_SETS = ((), ("a",), ("b", "a"), ("value", "c"), ("b", "c", "a"))


class StatesCase(unittest.TestCase):
    def assert_raises(self, error, values, call, *arguments):
        with self.assertRaises(error) as caught:
            call(*arguments)
        self.assertIs(type(caught.exception), error)
        self.assertEqual([getattr(caught.exception, name) for name in values], list(values.values()))

    def assert_members(self, states, wanted, low=-4, high=4):
        """The small states of the set are just those that the function wants."""
        for state in small_states(states.names, low, high):
            self.assertIs(state in states, wanted(state), state)


class TestMaking(StatesCase):
    def test_members_by_the_plain_check(self):
        choice = random.Random(21)
        for _ in range(400):
            names = choice.choice(NAME_SETS)
            rows = random_rows(choice, names, 4, 4, 4)
            self.assert_members(States(names, rows), lambda state: fits_rows(rows, state))

    def test_no_row_and_an_empty_row(self):
        for names in NAME_SETS:
            self.assert_members(States(names, ()), lambda state: False)
            self.assert_members(States(names, ((),)), lambda state: True)
            self.assert_members(States(names, (((("", "", -1)),), ())), lambda state: True)

    def test_no_names(self):
        self.assertIn({}, States((), ((),)))
        self.assertNotIn({}, States((), ()))
        self.assertIn({}, States((), ((("", "", 0),),)))
        self.assertNotIn({}, States((), ((("", "", -1),),)))
        self.assertNotIn({"a": 1}, States((), ((),)))

    def test_large_numbers(self):
        states = States(("a", "b"), ((("a", "b", -BIG), ("", "a", -BIG)),))
        self.assertIn({"a": BIG, "b": 2 * BIG}, states)
        self.assertNotIn({"a": BIG, "b": 2 * BIG - 1}, states)
        self.assertNotIn({"a": BIG - 1, "b": 3 * BIG}, states)

    def test_names_are_sorted(self):
        self.assertEqual(States(("b", "value", "a", "zz", "aa"), ()).names, ("a", "aa", "b", "value", "zz"))
        self.assertEqual(States((), ()).names, ())

    def test_wrong_names(self):
        wrong = [
            ["a"], "a", None, {"a": 1}, ("a", "a"), ("a", "b", "a"), ("",), ("A",), ("a1",), ("a_b",), ("a b",), ("\u00e9",),
            ("abcdefghi",), ("set",), ("a", "error"), (1,), (None,), (b"a",), (True,), (["a"],), (("a",),), ({},), ("a\n",),
        ]
        for names in wrong:
            for rows in ((), ((),), None, [()]):
                self.assert_raises(BadStates, {"why": "names"}, States, names, rows)

    def test_all_words_that_are_no_names(self):
        words = (
            "again always any as ask below catch choose else end error for from if inputs leave none or out raise read "
            "return set try"
        )
        for word in words.split():
            self.assert_raises(BadStates, {"why": "names"}, States, (word,), ())
        self.assertEqual(States(("value",), ()).names, ("value",))
        self.assertEqual(States(("abcdefgh", "z", "sets", "values"), ()).names, ("abcdefgh", "sets", "values", "z"))

    def test_odd_names(self):
        for thing in odd_things():
            if thing not in ((), ("a",), ("a", "b"), ("n",), ("value",)):
                self.assert_raises(BadStates, {"why": "names"}, States, thing, ())
            if thing not in ("a", "n", "value"):
                self.assert_raises(BadStates, {"why": "names"}, States, (thing,), ())

    def test_wrong_rows(self):
        good = ("a", "", 1)
        wrong = [
            [], None, "", {}, ([],), ("",), (None,), ((good,), [good]), ((["a", "", 1],),), ((("a", "", True),),),
            ((("a", "c", 1),),), ((("c", "", 1),),), ((("a", "b"),),), ((("a", "b", 1, 1),),), ((("a", "b", 1j),),), (((good,),),),
            ((("a", "value", 1),),), ((("a", None, 1),),), ((([], "a", 1),),), ((("a", {}, 1),),), ((good, good), (good, ())),
        ]
        for rows in wrong:
            self.assert_raises(BadStates, {"why": "rows"}, States, ("a", "b"), rows)

    def test_odd_rows(self):
        row = (("", "", 0),)
        for thing in odd_things():
            self.assert_raises(BadStates, {"why": "rows"}, States, ("a",), ((), (thing,)))
            if thing not in ((), row):
                self.assert_raises(BadStates, {"why": "rows"}, States, ("a",), ((), thing))
            if thing not in ((), ((),), (row,)):
                self.assert_raises(BadStates, {"why": "rows"}, States, ("a",), thing)

    def test_rows_give_the_set_again(self):
        choice = random.Random(22)
        for _ in range(200):
            names = choice.choice(NAME_SETS)
            rows = random_rows(choice, names, 4, 4, 4)
            states = States(names, rows)
            again = States(states.names, states.rows)
            self.assertEqual(again, states)
            self.assertEqual(again.names, states.names)
            self.assert_members(again, lambda state: fits_rows(rows, state))
            self.assert_members(states, lambda state: fits_rows(states.rows, state))

    def test_rows_are_rows(self):
        states = States(("b", "a"), ((("a", "b", 3), ("", "a", 1)), ()))
        self.assertIs(type(states.rows), tuple)
        for row in States(("b", "a"), ((("a", "b", 3), ("", "a", 1)), (("a", "", 1), ("b", "", 1)))).rows:
            self.assertIs(type(row), tuple)
            for left, right, number in row:
                self.assertIn(left, ("", "a", "b"))
                self.assertIn(right, ("", "a", "b"))
                self.assertIs(type(number), int)
        self.assertEqual(States(("a",), ()).rows, ())

    def test_nothing_is_changed(self):
        names, rows = ("b", "a"), ((("a", "b", 3), ("", "a", 1)), (("a", "", 1),))
        before = frozen((names, rows))
        states = States(names, rows)
        states.without("a")
        states.renamed("a", "c")
        states.over(("d",))
        states.some()
        self.assertEqual((names, rows), before)
        self.assertEqual(states, States(names, rows))


class TestMembership(StatesCase):
    def test_other_keys_and_values(self):
        states = States(("a", "b"), ((),))
        self.assertIn({"b": 1, "a": 2}, states)
        for wrong in (
            {}, {"a": 1}, {"a": 1, "b": 2, "c": 3}, {"a": 1, "c": 2}, {"a": 1, "b": True}, {"a": 1, "b": None},
            {"a": 1, "b": "1"}, {"a": 1, "b": 1j}, {"a": 1, "b": [1]}, {"a": 1, b"b": 1}, {"a": 1, 0: 1}, {"a": 1, ("b",): 1},
            (("a", 1), ("b", 2)), ["a", "b"], ("a", "b"), "ab", None, {"a", "b"}, {"a": False, "b": 1},
        ):
            self.assertIs(wrong in states, False)

    def test_anything_may_be_asked(self):
        for thing in odd_things():
            for states in (States(("n",), ((),)), States(("a", "b"), ((),)), States(("n",), ())):
                self.assertIs(thing in states, False)
        self.assertIs({} in States((), ((),)), True)
        self.assertIs([] in States((), ((),)), False)

    def test_equal_to_nothing_of_another_class(self):
        states = States(("n",), ((),))
        for thing in odd_things():
            if not isinstance(thing, States):
                self.assertIs(states == thing, False)
                self.assertIs(states != thing, True)
                self.assertIs(thing == states, False)
        self.assertIs(states == states.rows, False)


class TestLooking(StatesCase):
    def test_empty_and_some(self):
        choice = random.Random(23)
        seen = set()
        for _ in range(600):
            names = choice.choice(NAME_SETS)
            rows = random_rows(choice, names, 3, 5, 3)
            states = States(names, rows)
            # Without zero among the terms of a row, solved still puts zero where it belongs.
            empty = all(solved(row)[0] == "ring" for row in rows)
            seen.add(empty)
            self.assertIs(states.is_empty(), empty)
            state = states.some()
            if empty:
                self.assertIsNone(state)
            else:
                self.assertIs(type(state), dict)
                self.assertEqual(set(state), set(names))
                self.assertTrue(fits_rows(rows, state))
                self.assertIn(state, states)
        self.assertEqual(seen, {True, False})

    def test_some_is_new(self):
        states = States(("a",), ((("a", "", 1),),))
        first = states.some()
        first["a"] = 9
        first["b"] = 9
        self.assertIn(states.some(), states)

    def test_some_far_away(self):
        states = States(("a", "b"), ((("", "a", -BIG), ("a", "b", -BIG)),)) - States(("a", "b"), ((("b", "", 3 * BIG),),))
        state = states.some()
        self.assertIn(state, states)
        self.assertGreater(state["b"], 3 * BIG)

    def test_holds_and_bound(self):
        choice = random.Random(24)
        for _ in range(250):
            names = choice.choice(NAME_SETS[1:])
            rows = random_rows(choice, names, 3, 5, 3)
            states = States(names, rows)
            terms = ("",) + tuple(names)
            left, right = choice.choice(terms), choice.choice(terms)
            if states.is_empty():
                self.assertIs(states.holds((left, right, -BIG)), True)
                self.assert_raises(NoStates, {}, states.bound, left, right)
                continue
            bound = states.bound(left, right)
            apart = [
                number_of(state, left) - number_of(state, right)
                for state in small_states(names, -5, 5) if fits_rows(rows, state)
            ]
            if bound is None:
                self.assertIs(states.holds((left, right, BIG)), False)
                self.assertIn((states - States(names, (((left, right, BIG),),))).some(), states)
            else:
                self.assertIs(type(bound), int)
                self.assertIs(states.holds((left, right, bound)), True)
                self.assertIs(states.holds((left, right, bound + 1)), True)
                self.assertIs(states.holds((left, right, bound - 1)), False)
                self.assertLessEqual(max(apart, default=bound), bound)
                # The bound is tight: some state of a row reaches it.
                reached = ((right, left, -bound),)
                self.assertTrue(any(solved(row + reached)[0] == "values" for row in rows))

    def test_bounds_by_hand(self):
        states = States(("a", "b"), ((("a", "", 3), ("", "a", 0)), (("a", "b", 7), ("a", "", 5))))
        self.assertEqual(states.bound("a", ""), 5)
        self.assertIsNone(states.bound("", "a"))
        self.assertIsNone(states.bound("a", "b"))
        self.assertIsNone(states.bound("b", "a"))
        self.assertEqual(states.bound("a", "a"), 0)
        self.assertEqual(states.bound("", ""), 0)
        closed = States(("a", "b"), ((("a", "b", 1), ("b", "", 4), ("", "b", 0)), (("a", "b", -2), ("b", "", 9))))
        self.assertEqual(closed.bound("a", "b"), 1)
        self.assertEqual(closed.bound("a", ""), 7)
        self.assertEqual(closed.bound("b", ""), 9)

    def test_the_last_one_taken_away(self):
        """The greatest value is bound only by what has been taken away."""
        line = States(("a",), ((("a", "", 9), ("", "a", 9)),))
        holes = States(("a",), ((("a", "", 9), ("", "a", -7)), (("a", "", 6), ("", "a", -6)), (("a", "", -9),)))
        self.assertEqual((line - holes).bound("a", ""), 5)
        self.assertEqual((line - holes).bound("", "a"), 8)
        self.assertIs((line - holes).holds(("a", "", 5)), True)
        self.assertIs((line - holes).holds(("a", "", 4)), False)

    def test_holds_of_a_term_and_itself(self):
        states = States(("a",), ((),))
        self.assertIs(states.holds(("a", "a", 0)), True)
        self.assertIs(states.holds(("a", "a", -1)), False)
        self.assertIs(states.holds(("", "", 0)), True)
        self.assertIs(states.holds(("", "", -1)), False)
        self.assertIs(States(("a",), ()).holds(("", "", -1)), True)

    def test_wrong_literals(self):
        for states in (States(("a",), ((),)), States(("a",), ())):
            for wrong in (
                ["a", "", 1], ("a", ""), ("a", "", 1, 1), ("a", "", True), ("a", "", "1"), (1, "", 1), ("zz", None, 1), None,
            ):
                self.assert_raises(NoLiterals, {"at": 0}, states.holds, wrong)
            for thing in odd_things():
                self.assert_raises(NoLiterals, {"at": 0}, states.holds, thing)

    def test_unknown_terms(self):
        for states in (States(("a",), ((),)), States(("a",), ())):
            self.assert_raises(NoName, {"term": "b"}, states.holds, ("b", "c", 1))
            self.assert_raises(NoName, {"term": "c"}, states.holds, ("a", "c", 1))
            self.assert_raises(NoName, {"term": "value"}, states.holds, ("", "value", 1))
            self.assert_raises(NoName, {"term": "x y"}, states.holds, ("x y", "a", 1))
            self.assert_raises(NoName, {"term": "b"}, states.bound, "b", "c")
            self.assert_raises(NoName, {"term": "c"}, states.bound, "a", "c")
            self.assert_raises(NoName, {"term": "c"}, states.bound, "", "c")
        for thing in odd_things():
            if thing not in ("a", ""):
                for states in (States(("a",), ((),)), States(("a",), ())):
                    for left, right in ((thing, "a"), ("a", thing), (thing, "zz")):
                        with self.assertRaises(NoName) as caught:
                            states.bound(left, right)
                        self.assertIs(caught.exception.term, thing)

    def test_no_bound_of_no_states(self):
        self.assert_raises(NoStates, {}, States(("a",), ()).bound, "a", "a")
        self.assert_raises(NoStates, {}, States(("a",), ((("a", "a", -1),),)).bound, "", "a")
        self.assert_raises(NoName, {"term": "b"}, States(("a",), ()).bound, "a", "b")


class TestOtherNames(StatesCase):
    def test_without(self):
        choice = random.Random(25)
        for _ in range(150):
            names = choice.choice(NAME_SETS[1:4])
            rows = random_rows(choice, names, 3, 4, 3)
            more = random_rows(choice, names, 3, 3, 3)
            name = choice.choice(names)
            rest = tuple(sorted(set(names) - {name}))
            for states, fits in (
                (States(names, rows), lambda state: fits_rows(rows, state)),
                (States(names, rows) - States(names, more), lambda s: fits_rows(rows, s) and not fits_rows(more, s)),
            ):
                shadow = states.without(name)
                self.assertEqual(shadow.names, rest)
                # The numbers in the rows are small, so a name that can be put at all can be put near the others.
                self.assert_members(
                    shadow, lambda state: any(fits({**state, name: number}) for number in range(-24, 25)), -3, 3
                )

    def test_without_a_gap(self):
        """What was between the bounds and what was taken away from there, when the name goes."""
        names = ("a", "b", "c")
        between = States(names, ((("a", "b", -1), ("b", "c", -1)),))
        self.assertEqual(between.without("b"), States(("a", "c"), ((("a", "c", -2),),)))
        even = between - States(names, ((("b", "a", 1),),))
        self.assertEqual(even.without("b"), States(("a", "c"), ((("a", "c", -3),),)))
        low = States(names, ((("b", "a", 0), ("b", "c", 0)),))
        self.assertEqual(low.without("b"), States(("a", "c"), ((),)))
        gone = (low - States(names, ((("b", "", 100),),))).without("b")
        self.assertEqual(gone, States(("a", "c"), ((("", "a", -101), ("", "c", -101)),)))

    def test_without_the_last_name(self):
        self.assertEqual(States(("a",), ((("a", "", 1),),)).without("a"), States((), ((),)))
        self.assertEqual(States(("a",), ()).without("a"), States((), ()))

    def test_without_unknown(self):
        for wrong in ("b", "", "value", None, ["a"], ("a",), 1, True, {}, b"a"):
            self.assert_raises(NoName, {"term": wrong}, States(("a",), ((),)).without, wrong)
        for thing in odd_things():
            if thing != "a":
                with self.assertRaises(NoName) as caught:
                    States(("a",), ((),)).without(thing)
                self.assertIs(caught.exception.term, thing)

    def test_renamed(self):
        choice = random.Random(26)
        for _ in range(100):
            rows = random_rows(choice, ("m", "n"), 3, 4, 3)
            more = random_rows(choice, ("m", "n"), 3, 3, 3)
            states = States(("m", "n"), rows) - States(("n", "m"), more)
            old, new = choice.choice(("m", "n")), choice.choice(("a", "mm", "z", "value"))
            renamed = states.renamed(old, new)
            self.assertEqual(renamed.names, tuple(sorted(({"m", "n"} - {old}) | {new})))
            self.assert_members(
                renamed, lambda state: {old if name == new else name: state[name] for name in state} in states
            )
            self.assertEqual(renamed.renamed(new, old), states)

    def test_renamed_wrongly(self):
        states = States(("a", "b"), ((),))
        for old, new, term in (
            ("c", "c", "c"), ("c", "a", "c"), ("", "d", ""), ("a", "a", "a"), ("a", "b", "b"), ("a", "", ""),
            ("a", "set", "set"), ("a", "abcdefghi", "abcdefghi"), ("a", "A", "A"), (["a"], ["a"], ["a"]), ("a", ["c"], ["c"]),
            ("a", None, None), (None, None, None), ("a", 1, 1), ("a", ("c",), ("c",)), ("value", "c", "value"),
        ):
            self.assert_raises(NoName, {"term": term}, states.renamed, old, new)
        for thing in odd_things():
            if thing not in ("a", "b"):
                with self.assertRaises(NoName) as caught:
                    states.renamed(thing, thing)
                self.assertIs(caught.exception.term, thing)
            if thing not in ("n", "value"):
                with self.assertRaises(NoName) as caught:
                    states.renamed("a", thing)
                self.assertIs(caught.exception.term, thing)

    def test_over(self):
        choice = random.Random(27)
        for _ in range(60):
            rows = random_rows(choice, ("m", "n"), 3, 4, 3)
            more = random_rows(choice, ("m", "n"), 3, 3, 3)
            states = States(("m", "n"), rows) - States(("n", "m"), more)
            extra = choice.choice(((), ("m",), ("a",), ("z", "n"), ("value",), ("mm", "m")))
            wide = states.over(extra)
            self.assertEqual(wide.names, tuple(sorted({"m", "n"} | set(extra))))
            self.assert_members(wide, lambda state: {name: state[name] for name in ("m", "n")} in states, -3, 3)

    def test_over_wrongly(self):
        for wrong in (["c"], "c", None, ("c", "c"), ("b", "b"), ("",), ("set",), (1,), (["c"],), {"c": 1}, ("abcdefghi",)):
            self.assert_raises(BadStates, {"why": "names"}, States(("a", "b"), ((),)).over, wrong)
        for thing in odd_things():
            if thing not in ((), ("a",), ("a", "b"), ("n",), ("value",)):
                self.assert_raises(BadStates, {"why": "names"}, States(("a",), ()).over, thing)


if __name__ == "__main__":
    unittest.main()
