"""Sets of states of the sizes that point 0.3 allows: each call ends in seconds."""

import random
import time
import unittest

from behindexits.states import States
from tests.plain import fits_row, fits_rows, full_rows

NAMES = tuple("abcdefghi")
EVERY = States(NAMES, ((),))
# Far more than the calls take, so that a slow machine passes, and far less than one that tries all rows out.
MOST_SECONDS = 20


def boxes(choice):
    rows = []
    for _ in range(6):
        row = []
        for name in choice.sample(NAMES, 3):
            low = choice.randint(-50, 50)
            row.extend([(name, "", low + choice.randint(0, 60)), ("", name, -low)])
        rows.append(tuple(row))
    return tuple(rows)


def orders(choice):
    return tuple(tuple(tuple(choice.sample(NAMES, 2)) + (0,) for _ in range(6)) for _ in range(6))


def on_few_names(choice):
    return tuple(row for _ in range(6) for row in full_rows(choice, choice.sample(NAMES, 3), 1, 6, 3))


def loose(choice):
    """Rows most of whose opposites go together, which is the hardest for differences."""
    rows = full_rows(choice, NAMES, 6, 6, 500)
    return tuple(tuple((left, right, abs(number)) for left, right, number in row) for row in rows)


def long_row(choice):
    """One row of 100 literals that holds with some state."""
    state = {name: choice.randint(-40, 40) for name in NAMES + ("",)}
    state[""] = 0
    row = []
    for _ in range(100):
        left, right = choice.sample(("",) + NAMES, 2)
        row.append((left, right, state[left] - state[right] + choice.randint(0, 30)))
    return (tuple(row),)


def near_states(choice, rows):
    """States around the bounds of the rows."""
    found = []
    for _ in range(150):
        state = {name: choice.randint(-60, 60) for name in NAMES}
        row = rows[choice.randrange(len(rows))]
        for left, right, number in choice.sample(row, min(5, len(row))):
            if left != "":
                state[left] = (state[right] if right != "" else 0) + number + choice.randint(-1, 1)
        found.append(state)
    for _ in range(150):
        found.append({name: choice.randint(-4, 4) for name in NAMES})
    return found


class TestSizes(unittest.TestCase):
    def setUp(self):
        self.begun = time.perf_counter()

    def tearDown(self):
        self.assertLess(time.perf_counter() - self.begun, MOST_SECONDS)

    def judge(self, choice, first, second):
        one, other = States(NAMES, first), States(NAMES[::-1], second)
        both, some, less = one & other, one | other, one - other
        for state in near_states(choice, first) + near_states(choice, second):
            here, there = fits_rows(first, state), fits_rows(second, state)
            self.assertIs(state in both, here and there)
            self.assertIs(state in some, here or there)
            self.assertIs(state in less, here and not there)
        for states in (both, some, less):
            if not states.is_empty():
                self.assertIn(states.some(), states)
        self.assertEqual(one <= other, less.is_empty())
        self.assertTrue(both <= one and one <= some and less <= one)
        self.assertEqual(less | both, one)
        self.assertEqual(one - less, both)
        self.assertEqual(some - less, other)
        self.assertEqual(EVERY - some, (EVERY - one) & (EVERY - other))
        self.assertEqual((one - other) | (other - one), some - both)
        self.look(less)
        self.look(EVERY - one)
        self.look((one - other) | (other - one))

    def look(self, states):
        if states.is_empty():
            return
        for left in ("",) + NAMES:
            for right in ("",) + NAMES:
                bound = states.bound(left, right)
                if bound is None:
                    self.assertFalse(states.holds((left, right, 1000)))
                else:
                    self.assertTrue(states.holds((left, right, bound)))
                    self.assertFalse(states.holds((left, right, bound - 1)))
        shadow = states.without("a")
        self.assertIn({name: number for name, number in states.some().items() if name != "a"}, shadow)
        self.assertTrue(states <= shadow.over(("a",)))
        self.assertEqual(states.renamed("e", "zz").renamed("zz", "e"), states)

    def test_scattered_rows(self):
        choice = random.Random(41)
        self.judge(choice, full_rows(choice, NAMES, 6, 6, 3), full_rows(choice, NAMES, 6, 6, 3))

    def test_wider_rows(self):
        choice = random.Random(42)
        self.judge(choice, full_rows(choice, NAMES, 6, 6, 40), full_rows(choice, NAMES, 6, 6, 40))

    def test_boxes(self):
        choice = random.Random(43)
        self.judge(choice, boxes(choice), boxes(choice))

    def test_orders(self):
        choice = random.Random(44)
        self.judge(choice, orders(choice), orders(choice))

    def test_few_names(self):
        choice = random.Random(45)
        self.judge(choice, on_few_names(choice), on_few_names(choice))

    def test_loose_rows(self):
        choice = random.Random(46)
        self.judge(choice, loose(choice), loose(choice))

    def test_long_rows(self):
        choice = random.Random(47)
        self.judge(choice, long_row(choice), long_row(choice))
        self.judge(choice, long_row(choice), full_rows(choice, NAMES, 6, 6, 20))

    def test_a_long_row_and_its_parts(self):
        choice = random.Random(48)
        (row,) = long_row(choice)
        whole = States(NAMES, (row,))
        state = whole.some()
        self.assertTrue(fits_row(row, state))
        self.assertEqual(States(NAMES, (row[:50],)) & States(NAMES, (row[50:],)), whole)
        self.assertTrue(whole <= States(NAMES, (row[:99],)))
        outside = EVERY - whole
        self.assertEqual(EVERY - outside, whole)
        self.assertEqual(States(NAMES, outside.rows), outside)
        self.assertTrue((outside & whole).is_empty())

    def test_rows_of_a_difference(self):
        choice = random.Random(49)
        for rows in (full_rows(choice, NAMES, 6, 6, 3), boxes(choice), orders(choice)):
            less = EVERY - States(NAMES, rows)
            again = States(less.names, less.rows)
            for state in near_states(choice, rows):
                self.assertIs(state in again, not fits_rows(rows, state))
            self.assertEqual(again, less)

    def test_rows_of_two_differences(self):
        """Rows that were returned may be passed on and joined, however many there are."""
        choice = random.Random(53)
        first, second = full_rows(choice, NAMES, 6, 6, 3), full_rows(choice, NAMES, 6, 6, 3)
        one, other = States(NAMES, first), States(NAMES, second)
        sides = [States(NAMES, (EVERY - states).rows) for states in (one, other)]
        self.assertGreater(len(sides[0].rows) * len(sides[1].rows), 100000)
        joined = sides[0] | sides[1]
        for state in near_states(choice, first) + near_states(choice, second):
            self.assertIs(state in joined, not fits_rows(first, state) or not fits_rows(second, state))
        self.assertEqual(joined, EVERY - (one & other))
        self.assertTrue(sides[0] <= joined and sides[1] <= joined)

    def test_names_that_go_one_by_one(self):
        choice = random.Random(50)
        first, second = full_rows(choice, NAMES, 6, 6, 4), full_rows(choice, NAMES, 6, 6, 4)
        states = States(NAMES, first) - States(NAMES, second)
        state = states.some()
        for name in NAMES:
            states = states.without(name)
            del state[name]
            self.assertIn(state, states)
        self.assertEqual(states, States((), ((),)))

    def test_differences_of_differences(self):
        """A set may be taken away from a set many times over, without an error and without end of growth."""
        choice = random.Random(52)
        taken = []
        states = States(NAMES, ())
        for _ in range(200):
            rows = full_rows(choice, NAMES, 1, 2, 30)
            taken.append(rows)
            states = States(NAMES, rows) - states
        for state in near_states(choice, taken[-1]) + near_states(choice, taken[-2]):
            inside = False
            for rows in taken:
                inside = fits_rows(rows, state) and not inside
            self.assertIs(state in states, inside)

    def test_numbers_of_100_digits(self):
        choice = random.Random(51)
        big = 10 ** 99

        def grown(rows):
            return tuple(tuple((left, right, number * big) for left, right, number in row) for row in rows)

        self.judge(choice, grown(full_rows(choice, NAMES, 6, 6, 3)), grown(full_rows(choice, NAMES, 6, 6, 3)))


if __name__ == "__main__":
    unittest.main()
