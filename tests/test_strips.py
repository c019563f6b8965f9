"""Cases that are put together where only one difference is not the same: points 6.1 and 7.4 stand on it."""

import random
import unittest
from itertools import product

from behindexits.cases import any_of
from behindexits.parts import EMPTY, fits
from behindexits.strips import merged
from tests.test_shadows import random_group, random_literal


def from_to(low, high, i=1, j=0):
    """The literals that what is at i is so far above what is at j."""
    found = () if low is None else ((j, i, -low),)
    return found if high is None else found + ((i, j, high),)


class TestMerged(unittest.TestCase):
    def assert_merged(self, cases, wanted):
        found = merged([(literals, ()) for literals in cases])
        self.assertFalse([clauses for _, clauses in found if clauses])
        self.assertEqual(sorted(sorted(literals) for literals, _ in found), sorted(sorted(literals) for literals in wanted))

    def test_strips_that_touch(self):
        for strips, wanted in (
            ([(0, 0), (1, 1)], [(0, 1)]), ([(1, 1), (0, 0)], [(0, 1)]), ([(0, 0), (2, 2)], [(0, 0), (2, 2)]),
            ([(0, 5), (3, 4)], [(0, 5)]), ([(3, 4), (0, 5)], [(0, 5)]), ([(0, 5), (6, 9), (11, 12)], [(0, 9), (11, 12)]),
            ([(None, 3), (4, 7)], [(None, 7)]), ([(None, 3), (5, 7)], [(None, 3), (5, 7)]), ([(5, None), (-2, 4)], [(-2, None)]),
            ([(5, None), (7, 8), (9, None)], [(5, None)]), ([(None, 3), (None, 8)], [(None, 8)]), ([(2, 4), (2, 9)], [(2, 9)]),
            ([(None, 3), (1, None)], [(None, None)]), ([(2, 4), (9, 8)], [(2, 4)]), ([(5, 4), (9, 8)], []),
            ([(-10 ** 99, 0), (1, 10 ** 99)], [(-10 ** 99, 10 ** 99)]),
        ):
            for i, j in ((1, 0), (0, 1), (3, 2), (2, 3)):
                found = merged([(from_to(low, high, i, j), ()) for low, high in strips])
                self.assertEqual(len(found), len(wanted), strips)
                for apart in range(-12, 13):
                    numbers = [0, 0, 0, 0]
                    numbers[i if i else j] = apart if i else -apart
                    here = any(fits(case, numbers, True) for case in found)
                    self.assertIs(here, any(fits((from_to(low, high, i, j), ()), numbers, True) for low, high in wanted))

    def test_what_else_a_case_says_must_be_the_same(self):
        rest, other = ((1, 2, 0),), ((1, 2, 1),)
        self.assert_merged([rest + from_to(0, 1), rest + from_to(2, 3)], [rest + from_to(0, 3)])
        self.assert_merged([rest + from_to(0, 1), other + from_to(2, 4)], [rest + from_to(0, 1), other + from_to(2, 4)])
        self.assert_merged([rest + from_to(0, 1), from_to(2, 3)], [rest + from_to(0, 1), from_to(2, 3)])
        self.assert_merged([rest + from_to(0, 1), rest, rest + from_to(4, None)], [rest])
        self.assert_merged([((1, 1, 0),), ((1, 1, -1),)], [((1, 1, 0),), ((1, 1, -1),)])

    def test_one_difference_after_another(self):
        boxes = [from_to(a, a + 1) + from_to(b, b + 2, 2) for a in (0, 2) for b in (-3, 0)]
        self.assert_merged(boxes, [from_to(0, 3) + from_to(-3, 2, 2)])

    def test_cases_with_clauses_stay(self):
        cases = [(from_to(0, 1), ((((1, 2, 0), (2, 1, -3)), ()),)), (from_to(2, 3), ())]
        self.assertEqual(merged(cases), cases)

    def test_several_literals_of_one_difference(self):
        self.assert_merged([from_to(0, 4) + from_to(2, 9), from_to(5, 6)], [from_to(2, 6)])

    def test_any_of(self):
        self.assertEqual(any_of([(from_to(None, 3), ()), (from_to(1, None), ())]), EMPTY)
        literals, clauses = any_of([(from_to(0, 3), ()), (from_to(4, 5), ())])
        self.assertEqual((sorted(literals), clauses), (sorted(from_to(0, 5)), ()))
        self.assertEqual(any_of([(from_to(0, 3), ()), EMPTY]), EMPTY)
        for none in ([], [(from_to(1, 0), ()), (from_to(3, 2), ())]):
            self.assertFalse(any(fits(any_of(none), [0, number, 0], True) for number in range(-9, 10)))

    def test_random_cases(self):
        choice = random.Random(131)
        fewer = 0
        for _ in range(400):
            cases = []
            for _ in range(choice.randint(0, 6)):
                if choice.random() < 0.2:
                    cases.append(random_group(choice, 3, 1))
                else:
                    low = choice.randint(-3, 2)
                    strip = from_to(low, low + choice.randint(0, 2), *choice.choice(((1, 0), (2, 1))))
                    cases.append((tuple(random_literal(choice, 3) for _ in range(choice.choice((0, 0, 1)))) + strip, ()))
            found = merged(cases)
            fewer += len(found) < len(cases)
            for numbers in product(range(-3, 4), repeat=3):
                state = (0,) + numbers
                wanted = any(fits(case, state, True) for case in cases)
                self.assertIs(any(fits(case, state, True) for case in found), wanted, cases)
                self.assertIs(fits(any_of(cases), state, True), wanted, cases)
        self.assertGreater(fewer, 80)


if __name__ == "__main__":
    unittest.main()
