"""Shadows of parts, against a plain search for the hidden integers: what points 2.5 and 6.1 stand on."""

import random
import unittest
from itertools import product

from behindexits import shadows
from behindexits.cases import lean, narrowed
from behindexits.parts import free_zone, has_state, size_of
from behindexits.shadows import shadow, shadow_case
from behindexits.zones import whole

MOST = 3


def box(indexes, most=MOST):
    """The case that the integers at the indexes are not far from 0."""
    literals = ()
    for i in indexes:
        literals += ((i, 0, most), (0, i, most))
    return literals, ()


def random_literal(choice, many):
    i, j = choice.sample(range(many + 1), 2)
    return (i, j, choice.randint(-2, 2))


def random_group(choice, many, depth):
    """A case or clause over so many integers."""
    literals = tuple(random_literal(choice, many) for _ in range(choice.randint(0 if depth else 1, 2)))
    others = tuple(random_group(choice, many, depth - 1) for _ in range(choice.choice((0, 1, 1, 2)))) if depth else ()
    return literals, others


def random_part(choice, many, boxed):
    """An opened part that has a state, its zone with bounds for the boxed integers."""
    while True:
        literals = tuple(random_literal(choice, many) for _ in range(choice.choice((0, 1, 2))))
        clauses = tuple(random_group(choice, many, choice.choice((0, 1, 1, 2))) for _ in range(choice.randint(1, 4)))
        part = narrowed(narrowed((whole(many), ()), box(boxed)), (literals, clauses))
        if part is not None and free_zone(part) is not None:
            return part


def fits(part, numbers):
    return has_state(part, [0] + list(numbers))


def is_about(part, k):
    """Whether a part says something of the integer at k."""
    zone, clauses = part
    numbers = [zone[i][k] for i in range(len(zone)) if i != k] + [number for i, number in enumerate(zone[k]) if i != k]
    return any(number is not None for number in numbers) or shadows.is_about(((), clauses), (k,))


class TestShadows(unittest.TestCase):
    def setUp(self):
        self.a_floor = shadows.A_FLOOR

    def tearDown(self):
        shadows.A_FLOOR = self.a_floor

    def assert_shadow(self, part, hidden, found, far, given=()):
        """The small states of the part that was found are those for which the hidden integers are found."""
        many = len(part[0]) - 1
        for k in hidden:
            self.assertFalse(is_about(found, k), (part, hidden))
        seen = [i for i in range(1, many + 1) if i not in hidden]
        for state in product(range(-2, 3), repeat=len(seen)):
            numbers = [0] * many
            for i, number in zip(seen, state):
                numbers[i - 1] = number
            if not fits((whole(many), given), numbers):
                continue
            wanted = False
            for more in product(range(-far, far + 1), repeat=len(hidden)):
                for k, number in zip(hidden, more):
                    numbers[k - 1] = number
                if fits(part, numbers):
                    wanted = True
                    break
            self.assertIs(fits(found, numbers), wanted, (part, hidden, numbers, given))

    def each_way(self):
        """As it is, by options alone, and by floors alone."""
        for a_floor in (self.a_floor, 10 ** 9, 0):
            shadows.A_FLOOR = a_floor
            yield a_floor

    def test_of_integers_with_bounds(self):
        choice = random.Random(121)
        for _ in range(250):
            hidden = choice.choice(((1,), (3,), (1, 3), (2, 3), (1, 2, 3)))
            part = random_part(choice, choice.choice((3, 4)), hidden)
            for _ in self.each_way():
                self.assert_shadow(part, hidden, shadow(part, hidden, ()), MOST)

    def test_of_integers_without_bounds(self):
        choice = random.Random(122)
        for _ in range(200):
            hidden = choice.choice(((1,), (2,), (1, 2)))
            part = random_part(choice, 3, choice.choice(((), (), hidden[:1])))
            for _ in self.each_way():
                self.assert_shadow(part, hidden, shadow(part, hidden, ()), 11)

    def test_of_states_that_fit_given_clauses(self):
        choice = random.Random(123)
        done = 0
        while done < 200:
            hidden = choice.choice(((3,), (2, 3)))
            part = random_part(choice, 3, hidden)
            given = tuple(random_group(choice, 3 - len(hidden), choice.choice((0, 1))) for _ in range(2))
            if free_zone((part[0], part[1] + given)) is not None:
                done += 1
                for _ in self.each_way():
                    self.assert_shadow(part, hidden, shadow(part, hidden, given), MOST, given)

    def test_hidden_integers_that_are_linked(self):
        """The clauses are about different integers, which the zone holds together, also through a third one."""
        for between in ((), (4,)):
            path = (2,) + between + (3,)
            literals = tuple(link for i, j in zip(path, path[1:]) for link in ((i, j, 0), (j, i, 0 if between else 1)))
            clauses = (((2, 1, 0), (1, 2, -4)), ()), (((3, 1, -2), (1, 3, -3)), ())
            part = narrowed((whole(4), ()), (literals, clauses))
            for _ in self.each_way():
                self.assert_shadow(part, (2, 3, 4), shadow(part, (2, 3, 4), ()), 9)

    def test_linked_integers_by_hand(self):
        """Both are the same integer, which is to be -1 or 1, and 0 or 1: it is 1, and so is the first one at least."""
        literals = ((2, 3, 0), (3, 2, 0), (2, 1, 0))
        either = (((), ((((2, 0, -1), (0, 2, 1)), ()), (((2, 0, 1), (0, 2, -1)), ()))),)
        other = (((), ((((3, 0, 0), (0, 3, 0)), ()), (((3, 0, 1), (0, 3, -1)), ()))),)
        part = narrowed((whole(3), ()), (literals, either + other))
        for _ in self.each_way():
            self.assert_shadow(part, (2, 3), shadow(part, (2, 3), ()), 4)

    def test_an_integer_that_the_zone_keeps_up(self):
        for bottom in (-2, 0, 1):
            clauses = (((2, 1, 0), (2, 0, -5)), ()), (((2, 1, 1), (1, 2, -3)), ())
            part = narrowed((whole(2), ()), (((0, 2, -bottom),), clauses))
            for _ in self.each_way():
                self.assert_shadow(part, (2,), shadow(part, (2,), ()), 9)

    def test_what_need_not_be_split(self):
        """Integers that others fix are replaced by them, and groups of clauses that mean nothing to each other stay apart."""
        clauses = ((((1, 3, 2), (3, 1, -4)), ()), (((3, 0, 2), (0, 3, -4)), ()))
        part = narrowed((whole(3), ()), (((3, 2, 1), (2, 3, -1)), clauses))
        self.assertEqual(shadow(part, (3,), ()), (whole(3), ((((1, 2, 3), (2, 1, -5)), ()), (((2, 0, 1), (0, 2, -3)), ()))))
        clauses = ()
        for k in (3, 4, 5, 6):
            clauses += ((((1, k, 0), (k, 2, 0)), ()), (((k, 1, -5), (2, k, -7)), ()))
        found = shadow((whole(6), clauses), (3, 4, 5, 6), ())
        self.assertLessEqual(size_of(found[1]), 4 * size_of(shadow((whole(6), clauses[:2]), (3, 4, 5, 6), ())[1]))

    def test_what_need_not_be_found_again(self):
        options = tuple((((1, 3, -number), (3, 2, number)), ()) for number in range(5))
        part = (whole(3), (((), options),))
        self.assertEqual(shadow(part, (3,), ()), narrowed((whole(3), ()), (((1, 2, 0),), ())))
        given = ((((1, 2, 3),), ()),)
        part = (whole(3), (((), ((((1, 3, 0), (3, 2, 5)), ()), (((3, 1, 0), (2, 3, -9)), ()))),))
        self.assertEqual(shadow(part, (3,), given), narrowed((whole(3), ()), (((1, 2, 5),), ())))

    def test_cases_within_a_part(self):
        choice = random.Random(124)
        none = 0
        for _ in range(300):
            there = narrowed((whole(3), ()), (box((1, 2))[0], tuple(random_group(choice, 2, 1) for _ in range(2))))
            literals = box((3,))[0] + (random_literal(choice, 3),)
            case = (literals, tuple(random_group(choice, 3, 1) for _ in range(choice.randint(0, 3))))
            inner = there and narrowed(there, case)
            if there is not None and free_zone(there) is not None:
                found = shadow_case(there, case, (3,))
                if inner is None or free_zone(inner) is None:
                    rest = found and narrowed(there, found)
                    self.assertIsNone(rest and free_zone(rest))
                    none += 1
                else:
                    self.assert_shadow(inner, (3,), narrowed(there, found), MOST)
        self.assertGreater(none, 20)

    def test_lean_parts_are_the_same(self):
        choice = random.Random(125)
        smaller = 0
        for _ in range(300):
            part = random_part(choice, 3, ())
            given = tuple(random_group(choice, 3, 1) for _ in range(choice.randint(0, 2)))
            if free_zone((part[0], part[1] + given)) is None:
                continue
            found = lean(part, given)
            smaller += len(str(found)) < len(str(part))
            for numbers in product(range(-3, 4), repeat=3):
                if fits((whole(3), given), numbers):
                    self.assertIs(fits(found, numbers), fits(part, numbers))
        self.assertGreater(smaller, 50)

    def test_what_lean_takes_away(self):
        zone = whole(2)
        both = (((1, 2, 0), (2, 1, -1)), ())
        self.assertEqual(lean((zone, (both,)), ()), (zone, ()))
        small, large = (((1, 0, 0), (2, 0, 0)), ()), (((1, 0, 0), (2, 0, 0), (1, 2, 0)), ())
        self.assertEqual(lean((zone, (small, large)), ()), (zone, (small,)))
        self.assertEqual(lean((zone, (large, small)), ()), (zone, (small,)))
        cases = (((1, 0, 0), (2, 0, 9)), ()), (((1, 0, 5), (0, 2, -3)), ()), (((1, 0, -1), (2, 0, 5)), ())
        self.assertEqual(lean((zone, (((), cases),)), ()), (zone, (((), cases[:2]),)))
        given = ((((0, 1, -1),), ()),)
        self.assertEqual(lean((zone, (small,)), given), narrowed((zone, ()), (((2, 0, 0),), ())))
        self.assertEqual(lean((zone, (both, small, large)), given), narrowed((zone, ()), (((2, 0, 0),), ())))
        self.assertEqual(lean((zone, ()), given), (zone, ()))


if __name__ == "__main__":
    unittest.main()
