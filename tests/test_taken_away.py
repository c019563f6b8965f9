"""Sets from which others were taken away, so that no row says what is left: points 2.3 to 2.5 by members."""

import random
import unittest
from itertools import product

from behindexits.states import States
from tests.plain import fits_rows, number_of, random_rows, small_states

NAMES = ("a", "b", "c")
MOST = 2
BOX = States(NAMES, (tuple((name, "", MOST) for name in NAMES) + tuple(("", name, MOST) for name in NAMES),))


def every(names):
    return States(names, ((),))


def taken(choice, names):
    """Some set made by differences, and the function that says which states it has."""
    first, second, third = (random_rows(choice, names, 3, 3, 1) for _ in range(3))
    one, other, last = (States(names, rows) for rows in (first, second, third))

    def here(state):
        return [fits_rows(rows, state) for rows in (first, second, third)]

    return choice.choice((
        (every(names) - one, lambda s: not here(s)[0]),
        (every(names) - (one - other), lambda s: not here(s)[0] or here(s)[1]),
        (every(names) - (one - (other - last)), lambda s: not here(s)[0] or here(s)[1] and not here(s)[2]),
        ((every(names) - one) - (other - last), lambda s: not here(s)[0] and (not here(s)[1] or here(s)[2])),
        ((one | other) - last, lambda s: (here(s)[0] or here(s)[1]) and not here(s)[2]),
    ))


class TestByMembers(unittest.TestCase):
    def test_bounds_within_a_box(self):
        choice = random.Random(61)
        for _ in range(300):
            states, wanted = taken(choice, NAMES)
            inner = choice.choice((states & BOX, BOX - (every(NAMES) - states)))
            members = [state for state in small_states(NAMES, -MOST, MOST) if wanted(state)]
            self.assertIs(inner.is_empty(), not members)
            if not members:
                self.assertIsNone(inner.some())
                continue
            self.assertIn(inner.some(), members)
            for left, right in product(("",) + NAMES, repeat=2):
                most = max(number_of(state, left) - number_of(state, right) for state in members)
                self.assertEqual(inner.bound(left, right), most)
                self.assertIs(inner.holds((left, right, most)), True)
                self.assertIs(inner.holds((left, right, most - 1)), False)

    def test_shadows(self):
        choice = random.Random(62)
        for _ in range(250):
            names = ("a", "b", "c", "d")[:choice.choice((3, 3, 4))]
            states, wanted = taken(choice, names)
            name = choice.choice(names)
            ends = choice.choice((((),), (((name, "", 1),),), ((("", name, 1),),)))
            shadow = (states & States(names, ends)).without(name)
            # No number in the rows is above 1 and none in the state above 2: a name that can be put at all can be put here.
            for state in small_states(shadow.names, -2, 2):
                tried = [{**state, name: number} for number in range(-7, 8)]
                there = any(fits_rows(ends, whole) and wanted(whole) for whole in tried)
                self.assertIs(state in shadow, there, state)


class TestByHand(unittest.TestCase):
    quarters = (
        (("a", "", 0), ("b", "", 0)), (("a", "", 0), ("", "b", -1)), (("", "a", -1), ("b", "", 0)), (("", "a", -1), ("", "b", -1)),
    )

    def test_nothing_is_left(self):
        whole = every(("a", "b"))
        self.assertTrue((whole - States(("a", "b"), self.quarters)).is_empty())
        self.assertIsNone((whole - States(("a", "b"), self.quarters)).some())
        for at in range(4):
            three = States(("a", "b"), self.quarters[:at] + self.quarters[at + 1:])
            self.assertFalse((whole - three).is_empty())
            self.assertEqual(whole - three, States(("a", "b"), (self.quarters[at],)))

    def test_bounds_of_what_is_left(self):
        square = States(("a", "b"), ((("a", "", 3), ("", "a", 0), ("b", "", 3), ("", "b", 0)),))
        left = square - States(("a", "b"), ((("", "a", -2), ("b", "", 1)), (("", "a", -2), ("", "b", -1))))
        self.assertEqual(left.bound("a", ""), 1)
        self.assertIs(left.holds(("a", "", 1)), True)
        self.assertEqual(left.bound("a", "b"), 1)
        self.assertEqual(left.bound("b", ""), 3)

    def test_no_bound_of_what_is_left(self):
        corner = every(("a", "b")) - States(("a", "b"), ((("", "a", -2), ("", "b", -2)),))
        self.assertIsNone(corner.bound("a", ""))
        self.assertIsNone(corner.bound("a", "b"))
        self.assertIs(corner.holds(("a", "", 10 ** 99)), False)

    def test_a_name_that_sinks(self):
        """Where d is low, b <= 0 is needed; where it is not, a <= 0 or c <= 0."""
        names = ("a", "b", "c", "d")
        states = every(names) - States(names, ((("d", "a", -1), ("", "b", -1)), (("", "d", -1), ("", "c", -1))))
        wanted = States(NAMES, ((("a", "", 0),), (("b", "", 0),), (("c", "", 0),)))
        self.assertEqual(states.without("d"), wanted)

    def test_a_name_that_sinks_below_an_end(self):
        """With b <= 0, or both a <= d and c <= 0: as d ends at -5, so does a in the latter."""
        names = ("a", "b", "c", "d")
        less = States(names, ((("", "b", -1),),)) - States(names, ((("a", "d", 0), ("c", "", 0)),))
        states = (every(names) - less) & States(names, ((("d", "", -5),),))
        wanted = States(NAMES, ((("b", "", 0),), (("a", "", -5), ("c", "", 0))))
        self.assertEqual(states.without("d"), wanted)

    def test_a_name_that_rises(self):
        names = ("a", "b", "c", "d")
        states = every(names) - States(names, ((("a", "d", -1), ("", "b", -1)), (("d", "", -1), ("", "c", -1))))
        wanted = States(NAMES, ((("", "a", 0),), (("b", "", 0),), (("c", "", 0),)))
        self.assertEqual(states.without("d"), wanted)


if __name__ == "__main__":
    unittest.main()
