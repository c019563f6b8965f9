"""Covers whose parts have clauses, state by state: what the operators of States stand on where sets are not small."""

import random
import unittest
from itertools import product

from behindexits.cases import narrowed
from behindexits.covers import all_hold, are_inside, both, case_of, either, hull, less, most_apart, rows_of, trimmed
from behindexits.parts import denied, few_zones, free_zone, is_part_inside, opened, settled
from behindexits.zones import met_all, whole
from tests.test_shadows import box, fits, random_part

MANY = 2
BOX = tuple(range(1, MANY + 1))
STATES = list(product(range(-3, 4), repeat=MANY))


def members(parts):
    return [state for state in STATES if any(fits(part, state) for part in parts)]


class TestCovers(unittest.TestCase):
    def setUp(self):
        self.choice = random.Random(44)

    def part(self):
        """A part all states of which are small."""
        return random_part(self.choice, MANY, BOX)

    def parts(self, most=3):
        return tuple(self.part() for _ in range(self.choice.randint(1, most)))

    def test_a_part_that_is_seen_to_be_inside_is_inside(self):
        seen = 0
        for _ in range(4000):
            part, other = self.part(), self.part()
            if self.choice.random() < 0.5:
                # Near to one another, so that some are inside.
                other = opened((other[0], part[1][:1])) or other
            if is_part_inside(part, other):
                seen += 1
                self.assertLessEqual(set(members([part])), set(members([other])), (part, other))
        self.assertGreater(seen, 100)

    def test_a_part_is_seen_to_be_inside_itself(self):
        for _ in range(300):
            part = self.part()
            self.assertTrue(is_part_inside(part, part))
            for clause in part[1]:
                self.assertTrue(is_part_inside(part, (part[0], (clause,))))
            self.assertTrue(is_part_inside(part, (whole(MANY), ())))

    def test_clauses_that_are_not_there_are_not_passed_over(self):
        zone = met_all(whole(MANY), box(BOX)[0])
        clause = (((1, 2, 0), (1, 0, -2)), ())
        self.assertFalse(is_part_inside((zone, ()), (zone, (clause,))))
        self.assertFalse(is_part_inside((zone, ((((1, 2, 1), (1, 0, -2)), ()),)), (zone, (clause,))))
        self.assertTrue(is_part_inside((zone, (clause,)), (zone, ())))
        # A clause that all states of the zone fit.
        self.assertTrue(is_part_inside((zone, ()), (zone, ((((1, 0, 3), (1, 2, 0)), ()),))))
        self.assertTrue(is_part_inside((met_all(zone, [(1, 2, -1)]), ()), (zone, (clause,))))

    def test_operations(self):
        for _ in range(400):
            one, two = self.parts(), self.parts()
            left, right = set(members(one)), set(members(two))
            self.assertEqual(set(members(both(one, two))), left & right)
            self.assertEqual(set(members(either(one, two))), left | right)
            self.assertEqual(set(members(less(one, two))), left - right)
            self.assertIs(are_inside(one, two), left <= right)
            self.assertIs(are_inside(both(one, two), two), True)
            self.assertIs(are_inside(one, either(one, two)), True)
            self.assertEqual(members(trimmed(one + two)), members(one + two))
            for part in both(one, two) + less(one, two):
                self.assertIsNotNone(free_zone(part))

    def test_rows(self):
        for _ in range(200):
            parts = self.parts()
            zones = [(met_all(whole(MANY), row), ()) for row in rows_of(parts)]
            self.assertEqual(members(zones), members(parts))
            for part in parts:
                self.assertEqual(members(settled(part)), members([part]))
                self.assertEqual(members([narrowed((whole(MANY), ()), case_of(part))]), members([part]))

    def test_denied(self):
        for _ in range(200):
            part = self.part()
            outside = narrowed((whole(MANY), ()), ((), (denied(case_of(part)),)))
            self.assertEqual(members([outside]), [state for state in STATES if not fits(part, state)])

    def test_bounds(self):
        for _ in range(200):
            parts = self.parts()
            states = [(0,) + state for state in members(parts)]
            zone = hull(parts)
            for i, j in product(range(MANY + 1), repeat=2):
                most = max(state[i] - state[j] for state in states)
                self.assertEqual(most_apart(parts, i, j), most)
                self.assertEqual(zone[i][j], most)
                self.assertIs(all_hold(parts, (i, j, most)), True)
                self.assertIs(all_hold(parts, (i, j, most - 1)), False)

    def test_a_few_zones(self):
        few = 0
        for _ in range(400):
            part = self.part()
            zones = few_zones(part)
            if zones is not None:
                few += 1
                self.assertEqual(members([(zone, ()) for zone in zones]), members([part]))
        self.assertGreater(few, 300)

    def test_no_few_zones_of_an_empty_part(self):
        zone = met_all(whole(MANY), [(1, 2, 0)])
        clause = (((2, 1, -1), (2, 1, -5)), ())
        self.assertEqual(few_zones((zone, (clause,))), [])
        many = tuple(((((i, 0, number), (0, i, -number - 2)), ())) for i in BOX for number in range(-9, 9, 3))
        self.assertIsNone(few_zones((whole(MANY), many)))


if __name__ == "__main__":
    unittest.main()
