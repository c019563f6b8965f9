"""Paths, and what is known along them: points 8.1 to 8.4."""

import random
import time
import unittest

from behindexits.errors import NoPath, NoWay, TooMany
from behindexits.paths import along, facts_of, paths, way_of
from behindexits.programs import Program
from behindexits.routes import block_counts
from behindexits.ways import ways
from tests.makes import EVEN, TRIES, random_program
from tests.plainpaths import walks_of_program
from tests.short import AGAIN, END, LATE, LEAVE, OUT, ask, attempt, choose, loop, when
from tests.things import frozen, odd_things

BOUNDED = Program(("n", "k"), (
    when("", "k", 0, [], [("out", "low")]), loop([when("i", "k", -1, [], [("out", "over")])]),
))


def is_just_one(thing):
    return isinstance(thing, tuple) and len(thing) == 1 and type(thing[0]) is int and thing[0] == 1


def forks(many):
    return tuple(choose([("read", name)]) for name in "abcdefghijklmopqrstuvwxyz"[:many])


class TestPathsByHand(unittest.TestCase):
    def check(self, block, wanted, inputs=("n",)):
        """wanted has the paths of each way, and the facts and names of each path."""
        program = Program(inputs, tuple(block))
        self.assertEqual(sorted(wanted), ways(program))
        for way, found in wanted.items():
            self.assertEqual(paths(program, way), [path for path, names, facts in found])
            for path, names, facts in found:
                self.assertEqual(way_of(program, path), way)
                self.assertEqual(along(program, path), names)
                self.assertEqual(facts_of(program, path), facts)

    def test_examples(self):
        self.assertEqual(paths(BOUNDED, END), [(0, 0)])
        self.assertEqual(facts_of(BOUNDED, (0, 0)), [("most", "", "k", 0), ("turns", (1,), ("", 0), ("n", 0))])
        self.assertEqual(paths(BOUNDED, ("out", "over")), [(0, 1, 1)])
        self.assertEqual(facts_of(BOUNDED, (0, 1, 1)), [
            ("most", "", "k", 0), ("most", "", "i", 0), ("most", "i", "n", -1), ("turns", (1,), ("", 0), ("i", 0)),
            ("most", "k", "i", 0),
        ])
        stairs = Program(("n", "k", "m"), (
            when("", "m", 0, [], [("out", "low")]), loop([when("i", "k", -1, [], [("out", "over")])]),
            loop([when("j", "m", -1, [], [("out", "over")])], (), "j", high=("k", 0)),
        ))
        self.assertEqual(facts_of(stairs, (0, 0, 0)), [
            ("most", "", "m", 0), ("turns", (1,), ("", 0), ("n", 0)), ("turns", (2,), ("", 0), ("k", 0)),
        ])

    def test_statements_without_decisions(self):
        self.check((), {END: [((), ["n"], [])]})
        self.check([("set", "x", ("n", 3)), ("read", "y")], {END: [
            ((), ["n", "x", "y"], [("most", "x", "n", 3), ("most", "n", "x", -3)]),
        ]})
        self.check([("set", "x", ("", -2)), OUT], {OUT: [((), ["n", "x"], [("most", "x", "", -2), ("most", "", "x", 2)])]})
        self.check([("raise", "late", ("n", 4))], {LATE: [
            ((), ["n", "value"], [("most", "value", "n", 4), ("most", "n", "value", -4)]),
        ]})

    def test_if_and_choose(self):
        self.check([when("n", "", 2, [("read", "x")], [OUT])], {
            END: [((0,), ["n", "x"], [("most", "n", "", 2)])], OUT: [((1,), ["n"], [("most", "", "n", -3)])],
        })
        self.check([choose([("set", "x", ("n", 0))], []), ("read", "y")], {END: [
            ((0,), ["n", "x", "y"], [("most", "x", "n", 0), ("most", "n", "x", 0)]), ((1,), ["n", "y"], []),
        ]})

    def test_literals_whose_terms_are_equal(self):
        self.check([when("n", "n", -1, [], []), ask("", "", 5)], {
            END: [((0, 0), ["n"], [("most", "n", "n", -1), ("most", "", "", 5)]),
                  ((1, 0), ["n"], [("most", "n", "n", 0), ("most", "", "", 5)])],
            LATE: [((0, 1), ["n", "value"], [("most", "n", "n", -1), ("most", "", "", -6), ("most", "value", "", 0), ("most", "", "value", 0)]),
                   ((1, 1), ["n", "value"], [("most", "n", "n", 0), ("most", "", "", -6), ("most", "value", "", 0), ("most", "", "value", 0)])],
        })

    def test_loops(self):
        self.check([loop([("read", "x"), choose([LEAVE], [AGAIN])], [("set", "y", ("n", 1))], low=("n", -5))], {END: [
            ((0,), ["n", "y"], [("turns", (0,), ("n", -5), ("n", 0)), ("most", "y", "n", 1), ("most", "n", "y", -1)]),
            ((1, 0), ["i", "n", "x"], [("most", "n", "i", 5), ("most", "i", "n", -1), ("turns", (0,), ("n", -5), ("i", 0))]),
        ]})
        self.check([loop([("again",)])], {END: [((0,), ["n"], [("turns", (0,), ("", 0), ("n", 0))])]})
        self.check([loop([OUT])], {
            END: [((0,), ["n"], [("turns", (0,), ("", 0), ("n", 0))])],
            OUT: [((1,), ["i", "n"], [("most", "", "i", 0), ("most", "i", "n", -1), ("turns", (0,), ("", 0), ("i", 0))])],
        })

    def test_loops_within_loops(self):
        inner = loop([when("j", "i", 0, [], [OUT])], (), "j", ("i", 1), ("n", 2))
        facts = [("most", "", "i", 0), ("most", "i", "n", -1), ("turns", (0,), ("", 0), ("i", 0))]
        self.check([loop([inner])], {
            END: [((0,), ["n"], [("turns", (0,), ("", 0), ("n", 0))])],
            OUT: [((1, 1, 1), ["i", "j", "n"], facts + [
                ("most", "i", "j", -1), ("most", "j", "n", 1), ("turns", (0, 0, 0), ("i", 1), ("j", 0)), ("most", "i", "j", -1),
            ])],
        })

    def test_errors_that_are_caught(self):
        caught = [("most", "e", "n", 2), ("most", "n", "e", -2)]
        out = [("most", "value", "e", 1), ("most", "e", "value", -1)]
        self.check([attempt([("raise", "late", ("n", 2))], [((), "e", ())])], {END: [((), ["e", "n"], caught)]})
        self.check([attempt([("raise", "late", ("n", 2))], [((), None, ())])], {END: [((), ["n"], [])]})
        self.check([attempt([("raise", "late", ("n", 2))], [(("late",), "e", (("raise", "big", ("e", 1)),))], (), [("read", "z")])], {
            ("raise", "big"): [((), ["e", "n", "value", "z"], caught + out)],
        })

    def test_the_handler_that_fits_first(self):
        block = [attempt([ask("n", "", 0)], [(("big",), "a", ()), (("late",), "b", (("read", "x"),)), ((), "c", ())], [("read", "y")])]
        self.check(block, {END: [
            ((0,), ["n", "y"], [("most", "n", "", 0)]),
            ((1,), ["b", "n", "x"], [("most", "", "n", -1), ("most", "b", "", 0), ("most", "", "b", 0)]),
        ]})

    def test_always_parts(self):
        self.check([attempt([("raise", "late", ("n", 1))], (), (), [choose([OUT], [])])], {
            OUT: [((0,), ["n"], [])], LATE: [((1,), ["n", "value"], [("most", "value", "n", 1), ("most", "n", "value", -1)])],
        })
        self.check([attempt([choose([OUT], [])], (), [("read", "x")], [choose([], []), ("set", "z", ("", 0))])], {
            OUT: [((0, 0), ["n", "z"], [("most", "z", "", 0), ("most", "", "z", 0)]), ((0, 1), ["n", "z"], [("most", "z", "", 0), ("most", "", "z", 0)])],
            END: [((1, 0), ["n", "x", "z"], [("most", "z", "", 0), ("most", "", "z", 0)]), ((1, 1), ["n", "x", "z"], [("most", "z", "", 0), ("most", "", "z", 0)])],
        })
        self.check([loop([attempt([("raise", "late", ("i", 0))], (), (), [LEAVE])])], {END: [
            ((0,), ["n"], [("turns", (0,), ("", 0), ("n", 0))]),
            ((1,), ["i", "n"], [("most", "", "i", 0), ("most", "i", "n", -1), ("turns", (0,), ("", 0), ("i", 0))]),
        ]})


class TestPaths(unittest.TestCase):
    def test_against_a_plain_walk(self):
        choice = random.Random(81)
        for at in range(400):
            program = random_program(choice, size=choice.choice((4, 7, 10)), weights=choice.choice((EVEN, TRIES)))
            walks = walks_of_program(program)
            self.assertEqual(sorted({way for _, way, _, _ in walks}), ways(program))
            for way in ways(program):
                wanted = [walk for walk in walks if walk[1] == way]
                if len(wanted) > 500:
                    with self.assertRaises(TooMany):
                        paths(program, way)
                else:
                    self.assertEqual(paths(program, way), [walk[0] for walk in wanted])
            counts = block_counts(program.block)
            self.assertEqual(counts, {way: len([walk for walk in walks if walk[1] == way]) for way in ways(program)})
            for path, way, names, facts in walks[:60]:
                self.assertEqual((way_of(program, path), along(program, path), facts_of(program, path)), (way, names, facts))
                self.assertTrue(all(type(decision) is int for decision in path))

    def test_what_is_no_path(self):
        choice = random.Random(82)
        for _ in range(150):
            program = random_program(choice, size=7)
            right = {walk[0] for walk in walks_of_program(program)}
            for path in sorted(right)[:20]:
                wrong = [path + (0,), path + (1,), path[:-1], path + path, path[1:]]
                for at in range(len(path)):
                    wrong += [path[:at] + (other,) + path[at + 1:] for other in (2, -1, 1 - path[at])]
                for other in wrong:
                    if other not in right:
                        self.assert_no_path(program, other)
                for at in range(len(path)):
                    self.assert_no_path(program, path[:at] + (bool(path[at]),) + path[at + 1:])
                    self.assert_no_path(program, path[:at] + (str(path[at]),) + path[at + 1:])
                self.assert_no_path(program, list(path))

    def assert_no_path(self, program, path):
        for call in (way_of, along, facts_of):
            with self.assertRaises(NoPath) as caught:
                call(program, path)
            self.assertEqual(vars(caught.exception), {})

    def test_anything(self):
        for thing in odd_things():
            if thing != ():
                self.assert_no_path(Program((), ()), thing)
            if not is_just_one(thing):
                self.assert_no_path(BOUNDED, thing)
            with self.assertRaises(NoWay) as caught:
                paths(BOUNDED, thing)
            self.assertIs(caught.exception.way, thing)
        self.assertEqual(way_of(Program((), ()), ()), END)

    def test_a_path_that_was_asked_as_numbers_is_none_with_true(self):
        self.assertEqual(way_of(BOUNDED, (0, 1, 1)), ("out", "over"))
        self.assert_no_path(BOUNDED, (0, True, 1))
        self.assert_no_path(BOUNDED, (False, 0))

    def test_a_turn_must_go_out(self):
        program = Program(("n",), (loop([choose([LEAVE], [choose([AGAIN])])]),))
        self.assertEqual(paths(program, END), [(0,), (1, 0)])
        for path in ((1, 1, 0), (1, 1, 1), (1,), (1, 1)):
            self.assert_no_path(program, path)

    def test_just_as_many_as_there_may_be(self):
        block = forks(8) + (choose([choose([choose([])])]),)
        program = Program((), block[:8])
        self.assertEqual(len(paths(program, END)), 256)
        for extra, many in (([choose([])], 512), ([when("", "", 0, [], [OUT])], 256)):
            program = Program((), block[:8] + tuple(extra))
            if many > 500:
                self.assert_too_many(program, END)
            else:
                self.assertEqual(len(paths(program, END)), many)

    def test_500_and_501(self):
        five = choose([choose([choose([])])], [choose([])])
        four = choose([choose([])], [choose([])])
        self.assertEqual(len(paths(Program((), (five,) * 3 + (four,)), END)), 500)
        more = choose([five, five, five], [choose([five, five, five], [choose([five, five, five], [five, five, five])])])
        self.assertEqual(len(paths(Program((), (more,)), END)), 500)
        self.assert_too_many(Program((), (choose([more], [choose([OUT], [])]),)), END)
        self.assertEqual(paths(Program((), (choose([more], [choose([OUT], [])]),)), OUT), [(1, 0)])

    def test_very_many(self):
        begun = time.perf_counter()
        self.assert_too_many(Program((), forks(25)), END)
        self.assert_too_many(Program((), tuple(choose([]) for _ in range(30))), END)
        program = Program((), tuple(choose([]) for _ in range(14)) + (choose([OUT]),) + tuple(choose([]) for _ in range(14)))
        self.assert_too_many(program, OUT)
        many = Program((), (choose([OUT]),) + tuple(choose([]) for _ in range(28)))
        self.assertEqual(paths(many, OUT), [(0,)])
        self.assertEqual(way_of(many, (1,) * 29), END)
        self.assertLess(time.perf_counter() - begun, 20)

    def assert_too_many(self, program, way):
        with self.assertRaises(TooMany) as caught:
            paths(program, way)
        self.assertEqual(caught.exception.most, 500)

    def test_the_way_is_checked_first(self):
        program = Program((), tuple(choose([]) for _ in range(12)))
        with self.assertRaises(NoWay):
            paths(program, OUT)
        self.assert_too_many(program, END)

    def test_ways_that_are_never_taken_have_paths(self):
        program = Program(("n",), (when("", "", -1, [OUT]), loop([ask("i", "i", -1)], (), "i", ("", 0), ("", 0))))
        self.assertEqual(paths(program, OUT), [(0,)])
        self.assertEqual(paths(program, LATE), [(1, 1, 1)])

    def test_lists_belong_to_the_caller(self):
        for call in (lambda: paths(BOUNDED, END), lambda: along(BOUNDED, (0, 1, 1)), lambda: facts_of(BOUNDED, (0, 1, 1))):
            first = call()
            kept = frozen(first)
            first.append(0)
            first[0] = None
            self.assertEqual(call(), kept)


if __name__ == "__main__":
    unittest.main()
