"""Small sets are put into zones at once, all others by shadows: both find the same."""

import random
import unittest
from unittest import mock

from behindexits.behind import behind, coming
from behindexits.errors import NoPlace
from behindexits.facts import passes
from behindexits.mends import harmless
from behindexits.places import needless
from behindexits.programs import Program
from behindexits.states import States
from behindexits.ways import known, known_at, ways
from tests.makes import EVEN, TRIES, random_program
from tests.plain import small_states
from tests.plainsets import Sets, TooMuch, over

LOOPS = dict(EVEN, **{"for": 6, "ask": 5, "raise": 0.5})


def slowly(call):
    """What a call returns when no set is small."""
    with mock.patch("behindexits.parts.A_FEW", 0):
        return call()


class TestBothWays(unittest.TestCase):
    def setUp(self):
        self.choice = random.Random(77)

    def programs(self, many, inputs=("n", "k"), reach=2):
        for _ in range(many):
            weights = self.choice.choice((EVEN, TRIES, LOOPS, LOOPS))
            yield random_program(self.choice, inputs, self.choice.choice((5, 8, 11)), reach, weights)

    def test_behind_and_coming(self):
        for program in self.programs(250):
            other = Program(program.inputs, program.block)
            for way in ways(program):
                found, wanted = slowly(lambda: behind(other, way)), behind(program, way)
                self.assertEqual(found, wanted, (program.block, way))
                self.assertEqual(States(found.names, found.rows), wanted)
            for place in program.places():
                self.assertEqual(slowly(lambda: coming(other, place)), coming(program, place), (program.block, place))

    def test_against_all_small_runs(self):
        for program in self.programs(150, ("n",), 1):
            try:
                sets = Sets(program, 4, small_states(("n",), -4, 4), 20000)
            except TooMuch:
                continue
            for way in ways(program):
                states = slowly(lambda: behind(program, way))
                for state in over(sets.behind.get(way, ()), known(program, way)):
                    self.assertIn(dict(zip(states.names, state)), states)

    def test_passes(self):
        looked = 0
        for program in self.programs(250):
            other = Program(program.inputs, program.block)
            for place in program.places():
                values = {name: self.choice.randint(-3, 3) for name in known_at(program, place)}
                try:
                    found = slowly(lambda: passes(other, place, values))
                except NoPlace:
                    continue
                looked += 1
                self.assertEqual(found, passes(program, place, values), (program.block, place, values))
        self.assertGreater(looked, 300)

    def test_harmless_and_needless(self):
        for program in self.programs(150):
            other = Program(program.inputs, program.block)
            self.assertEqual(slowly(lambda: needless(other)), needless(program))
            for way in ways(program):
                place = self.choice.choice(program.places())
                wish = self.literal(known(program, way))
                literal = self.literal(known_at(program, place))
                found = slowly(lambda: harmless(other, way, wish, place, literal))
                self.assertIs(found, harmless(program, way, wish, place, literal), (program.block, way, wish, place, literal))

    def literal(self, names):
        terms = ("",) + tuple(names)
        return (self.choice.choice(terms), self.choice.choice(terms), self.choice.randint(-2, 2))


if __name__ == "__main__":
    unittest.main()
