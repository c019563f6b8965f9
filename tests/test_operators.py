"""The operators of sets of states: point 2.3."""

import random
import unittest

from behindexits.errors import Unlike
from behindexits.states import States
from tests.plain import fits_rows, random_rows, small_states

NAME_SETS = ((), ("a",), ("b", "a"), ("c", "value"), ("b", "c", "a"))


class TestOperators(unittest.TestCase):
    def assert_members(self, states, wanted):
        for state in small_states(states.names, -4, 4):
            self.assertIs(state in states, wanted(state), state)

    def test_two_sets(self):
        choice = random.Random(31)
        for _ in range(250):
            names = choice.choice(NAME_SETS)
            first, second = (random_rows(choice, names, 3, 3, 3) for _ in range(2))
            one = States(names, first)
            other = States(tuple(choice.sample(names, len(names))), second)
            self.assert_members(one & other, lambda s: fits_rows(first, s) and fits_rows(second, s))
            self.assert_members(one | other, lambda s: fits_rows(first, s) or fits_rows(second, s))
            self.assert_members(one - other, lambda s: fits_rows(first, s) and not fits_rows(second, s))
            self.assertEqual((one & other).names, one.names)
            self.assertEqual((one | other).names, one.names)
            self.assertEqual((one - other).names, one.names)
            self.assertIs(type(one & other), States)

    def test_sets_of_sets(self):
        choice = random.Random(32)
        for _ in range(120):
            names = choice.choice(NAME_SETS[1:])
            rows = [random_rows(choice, names, 3, 3, 3) for _ in range(3)]
            one, other, third = (States(names, row) for row in rows)

            def parts(state):
                return [fits_rows(row, state) for row in rows]

            self.assert_members((one - other) - (third - other), lambda s: parts(s) == [True, False, False])
            self.assert_members(
                one - (other - (third - one)), lambda s: parts(s)[0] and (not parts(s)[1] or parts(s)[2] and not parts(s)[0])
            )
            self.assert_members((one - other) | (other - one), lambda s: parts(s)[0] != parts(s)[1])
            self.assert_members(((one | other) - third) & (third | one), lambda s: parts(s)[0] and not parts(s)[2])
            self.assert_members((one - other) | other, lambda s: parts(s)[0] or parts(s)[1])

    def test_laws(self):
        choice = random.Random(33)
        for _ in range(120):
            names = choice.choice(NAME_SETS)
            one, other, third = (States(names, random_rows(choice, names, 4, 4, 4)) for _ in range(3))
            every, none = States(names, ((),)), States(names, ())
            self.assertEqual((one - other) | (one & other), one)
            self.assertEqual(one - (one - other), one & other)
            self.assertEqual(every - (every - one), one)
            self.assertEqual(every - (one | other), (every - one) & (every - other))
            self.assertEqual((one | other) & third, (one & third) | (other & third))
            self.assertEqual(one - one, none)
            self.assertEqual(one | none, one)
            self.assertEqual(one & every, one)
            self.assertTrue((one - other).is_empty() is (one <= other))

    def test_order(self):
        choice = random.Random(34)
        seen = []
        for _ in range(400):
            names = choice.choice(NAME_SETS)
            first, second = (random_rows(choice, names, 2, 3, 2) for _ in range(2))
            one, other = States(names, first), States(names[::-1], second)
            inside = one <= other
            self.assertIs(type(inside), bool)
            seen.append(inside)
            states = list(small_states(names, -6, 6)) if len(names) < 3 else list(small_states(names, -4, 4))
            if inside:
                self.assertTrue(all(fits_rows(second, state) for state in states if fits_rows(first, state)))
            else:
                witness = (one - other).some()
                self.assertTrue(fits_rows(first, witness))
                self.assertFalse(fits_rows(second, witness))
            self.assertIs(one == other, inside and other <= one)
            self.assertIs(one != other, not (inside and other <= one))
        self.assertGreater(seen.count(True), 50)
        self.assertGreater(seen.count(False), 50)

    def test_equal_from_different_rows(self):
        line = States(("a",), ((("a", "", 9), ("", "a", 0)),))
        halves = States(("a",), ((("a", "", 4), ("", "a", 0)), (("a", "", 9), ("", "a", -5))))
        overlap = States(("a",), ((("a", "", 6), ("", "a", 0)), (("a", "", 9), ("", "a", -3)), (("a", "", -1), ("", "a", -1))))
        gap = States(("a",), ((("a", "", 4), ("", "a", 0)), (("a", "", 9), ("", "a", -6))))
        for one in (line, halves, overlap):
            for other in (line, halves, overlap):
                self.assertTrue(one == other)
                self.assertFalse(one != other)
            self.assertFalse(one == gap)
            self.assertTrue(gap <= one)
            self.assertFalse(one <= gap)

    def test_equal_only_because_they_are_integers(self):
        names = ("a", "b")
        one = States(names, ((("a", "b", 0),), (("b", "a", -1),)))
        self.assertEqual(one, States(names, ((),)))
        two = States(names, ((("a", "b", 0),), (("b", "a", -2),)))
        self.assertNotEqual(two, States(names, ((),)))
        self.assertEqual(States(names, ((),)) - two, States(names, ((("a", "b", 1), ("b", "a", -1)),)))

    def test_equal_whatever_the_rows_imply(self):
        names = ("a", "b", "c")
        chain = (("a", "b", 1), ("b", "c", 2))
        self.assertEqual(States(names, (chain,)), States(names, (chain + (("a", "c", 3),), chain + (("a", "c", 0),))))
        self.assertEqual(States(names, (chain + (("c", "a", -4),),)), States(names[::-1], ()))

    def test_other_names_are_unequal(self):
        self.assertNotEqual(States(("a",), ()), States(("b",), ()))
        self.assertNotEqual(States(("a",), ((),)), States(("a", "b"), ((),)))
        self.assertNotEqual(States((), ()), States(("a",), ()))
        self.assertEqual(States(("a", "b"), ()), States(("b", "a"), ()))

    def test_unlike(self):
        one = States(("a", "b"), ((),))
        for names in ((), ("a",), ("a", "c"), ("a", "b", "c")):
            other = States(names, ())
            for call in (
                lambda: one <= other, lambda: one & other, lambda: one | other, lambda: one - other,
                lambda: other <= one, lambda: other & one, lambda: other | one, lambda: other - one,
            ):
                with self.assertRaises(Unlike):
                    call()

    def test_operands_stay_as_they_are(self):
        first, second = ((("a", "b", 1), ("b", "", 2)),), ((("a", "", 0),), (("b", "", 0),))
        one, other = States(("a", "b"), first), States(("a", "b"), second)
        one & other, one | other, one - other, one <= other, one == other
        self.assertEqual(one, States(("a", "b"), first))
        self.assertEqual(other, States(("a", "b"), second))

    def test_results_may_be_used_again_and_again(self):
        """Chains of operators end, and nest without an error."""
        choice = random.Random(35)
        names = ("a", "b")
        every = States(names, ((),))
        states = every
        wanted = {tuple(state.values()): True for state in small_states(names, -4, 4)}
        for turn in range(300):
            rows = random_rows(choice, names, 2, 3, 3)
            other = States(names, rows)
            step = choice.choice(("flip", "with", "both", "less", "rest"))
            if step == "flip":
                states = (every - states) | other
            elif step == "with":
                states = states | (other - states)
            elif step == "both":
                states = (states | other) - (states - other) - (other - states)
            elif step == "less":
                states = states - other
            else:
                states = every - (other - states)
            for numbers in wanted:
                now, there = wanted[numbers], fits_rows(rows, dict(zip(("a", "b"), numbers)))
                wanted[numbers] = {
                    "flip": not now or there, "with": now or there, "both": now and there, "less": now and not there,
                    "rest": now or not there,
                }[step]
            if turn % 10 == 0:
                for numbers in wanted:
                    self.assertIs(dict(zip(("a", "b"), numbers)) in states, wanted[numbers])


if __name__ == "__main__":
    unittest.main()
