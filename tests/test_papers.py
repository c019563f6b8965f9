"""Papers: points 8.10 and 8.11."""

import random
import time
import unittest

from behindexits.errors import Never, NoLiterals, NoName, NoWay, TooMany
from behindexits.facts import holds, tightest
from behindexits.papers import paper, paper_fault
from behindexits.paths import paths
from behindexits.programs import Program
from behindexits.trees import closes
from behindexits.ways import known, ways
from tests.makes import EVEN, TRIES, random_program
from tests.short import AGAIN, END, LATE, LEAVE, OUT, ask, attempt, choose, loop, when
from tests.test_trees import BOUNDED, BOUNDED_TREE, STAIRS, STAIRS_TREE
from tests.things import frozen, is_same, odd_things

BIG = 10 ** 40
LOOPS = {"set": 1, "read": 1, "if": 4, "choose": 1, "ask": 4, "raise": 0.5, "out": 1, "leave": 1, "again": 1, "for": 5, "try": 1}
MOST_SECONDS = 20


def size(tree):
    return 1 if tree[0] == "ring" else 1 + sum(size(inner) for inner in tree[3])


class PaperCase(unittest.TestCase):
    def setUp(self):
        self.choice = random.Random(810)

    def assert_paper(self, program, way, literal):
        """There is a paper just if the literal holds, and it is one; returned is whether there is."""
        found = paper(program, way, literal)
        self.assertIs(found is not None, holds(program, way, literal), (program.block, way, literal))
        if found is None:
            return False
        self.assertIs(type(found), list)
        self.assertEqual([path for path, tree in found], paths(program, way))
        self.assertIsNone(paper_fault(program, way, literal, found), (program.block, way, literal))
        left, right, number = literal
        for path, tree in found:
            self.assertIs(closes(program, path, ((right, left, -number - 1),), tree), True)
        return True

    def literals(self, program, way, many):
        """Some literals, and those that hold tightly, and that just do not."""
        terms = ("",) + tuple(known(program, way))
        found = [(self.choice.choice(terms), self.choice.choice(terms), self.choice.randint(-3, 3)) for _ in range(many)]
        try:
            tight = [(left, right, number) for (left, right), number in tightest(program, way).items() if number is not None]
        except Never:
            return found
        for left, right, number in self.choice.sample(tight, min(many, len(tight))):
            found += [(left, right, number), (left, right, number - 1)]
        return found

    def check_all(self, program, many=3):
        held = 0
        for way in ways(program):
            for literal in self.literals(program, way, many):
                held += self.assert_paper(program, way, literal)
        return held


class TestPapers(PaperCase):
    def test_examples(self):
        self.assertIsNone(paper_fault(BOUNDED, END, ("n", "k", 0), [((0, 0), BOUNDED_TREE)]))
        self.assertIsNone(paper_fault(STAIRS, END, ("n", "m", 0), [((0, 0, 0), STAIRS_TREE)]))
        self.assertTrue(self.assert_paper(BOUNDED, END, ("n", "k", 0)))
        self.assertFalse(self.assert_paper(BOUNDED, END, ("n", "k", -1)))
        self.assertTrue(self.assert_paper(STAIRS, END, ("n", "m", 0)))
        self.assertFalse(self.assert_paper(STAIRS, END, ("n", "m", -1)))

    def test_by_hand(self):
        hole = Program(("n",), (loop([when("i", "", 2, [], [when("", "i", -5, [], [("out", "hole")])])]),))
        self.assertTrue(self.assert_paper(hole, END, ("n", "", 3)))
        self.assertTrue(self.assert_paper(hole, ("out", "hole"), ("i", "", 3)))
        self.assertTrue(self.assert_paper(hole, ("out", "hole"), ("", "i", -3)))
        search = Program(("n",), (loop([choose([LEAVE])], [("set", "i", ("", -1))]),))
        self.assertTrue(self.assert_paper(search, END, ("", "i", 1)))
        self.assertFalse(self.assert_paper(search, END, ("i", "n", -1)))

    def test_a_way_that_is_never_taken(self):
        program = Program(("n",), (when("", "", -1, [OUT]), loop([ask("i", "i", -1)], (), "i", ("n", 0), ("n", 0))))
        for literal in (("", "", -1), ("n", "", -BIG)):
            self.assertTrue(self.assert_paper(program, OUT, literal))
            self.assertTrue(self.assert_paper(program, LATE, literal))

    def test_loops_one_after_the_other(self):
        """The bounds go from loop to loop."""
        names = "abcde"
        block = [loop([when("t" + a, b, -1, [], [OUT])], (), "t" + a, ("", 0), (a, 0)) for a, b in zip(names, names[1:])]
        program = Program(tuple(names), (when("", "e", 0, [], [OUT]),) + tuple(block))
        self.assertTrue(self.assert_paper(program, END, ("a", "e", 0)))
        self.assertFalse(self.assert_paper(program, END, ("a", "e", -1)))

    def test_loops_within_loops(self):
        inner = loop([ask("j", "k", -1)], (), "j", ("", 0), ("i", 0))
        program = Program(("n", "k"), (ask("", "k", 0), loop([inner])))
        self.assertTrue(self.assert_paper(program, END, ("n", "k", 1)))
        self.assertFalse(self.assert_paper(program, END, ("n", "k", 0)))
        deepest = loop([ask("h", "k", -1)], (), "h", ("j", 0), ("m", 0))
        program = Program(("n", "m", "k"), (
            ask("", "n", -1), ask("", "m", -1), loop([loop([deepest], (), "j", ("i", 0), ("m", 0))]),
        ))
        self.assertTrue(self.assert_paper(program, END, ("m", "k", 0)))
        self.assertFalse(self.assert_paper(program, END, ("m", "k", -1)))

    def test_big_numbers(self):
        program = Program(("n", "k"), (ask("", "k", BIG), loop([when("i", "k", BIG - 1, [], [OUT])])))
        self.assertTrue(self.assert_paper(program, END, ("n", "k", BIG)))
        self.assertFalse(self.assert_paper(program, END, ("n", "k", BIG - 1)))
        self.assertLess(size(paper(program, END, ("n", "k", BIG))[0][1]), 30)

    def test_tries_and_readings(self):
        body = [attempt([("read", "x"), ask("i", "x", 0, "big"), ask("x", "k", -1)], [(("big",), "e", (("out", "done"),))])]
        program = Program(("n", "k"), (ask("", "k", 0), loop(body)))
        self.assertTrue(self.assert_paper(program, END, ("n", "k", 0)))
        self.assertFalse(self.assert_paper(program, END, ("n", "k", -1)))
        self.assertTrue(self.assert_paper(program, OUT, ("", "n", -1)))

    def test_random_programs(self):
        held = 0
        for _ in range(300):
            size_of_it = self.choice.choice((5, 8, 12))
            held += self.check_all(random_program(self.choice, size=size_of_it, weights=self.choice.choice((EVEN, TRIES, LOOPS))))
        self.assertGreater(held, 1500)

    def test_random_programs_of_three_inputs(self):
        for _ in range(120):
            self.check_all(random_program(self.choice, ("a", "b", "k"), 10, self.choice.choice((1, BIG)), LOOPS))

    def test_random_walls(self):
        """Loops whose turns end at walls between the inputs."""
        for _ in range(120):
            reach = self.choice.choice((2, 2, BIG))
            block = [ask(*self.literal("abk", reach), "big") for _ in range(self.choice.randint(0, 2))]
            fresh = list("cdefghijlm")
            for _ in range(self.choice.randint(1, 2)):
                block.append(self.walls(("a", "b", "k"), fresh, reach, 0))
            self.check_all(Program(("a", "b", "k"), tuple(block)), 4)

    def literal(self, names, reach):
        left, right = self.choice.sample(("",) + tuple(names), 2)
        return (left, right, self.choice.randint(-reach, reach))

    def walls(self, names, fresh, reach, depth):
        x = fresh.pop()
        body = []
        for _ in range(self.choice.randint(1, 3)):
            if depth < 2 and len(fresh) > 5 and self.choice.random() < 0.3:
                body.append(self.walls(names + (x,), fresh, reach, depth + 1))
            else:
                left, right, number = self.literal(names + (x,), reach)
                body.append(self.choice.choice((ask(left, right, number), when(left, right, number, [], [self.choice.choice((OUT, LEAVE, AGAIN))]))))
        ends = [(self.choice.choice(names), self.choice.randint(-reach, reach)) for _ in range(2)]
        return loop(body, (), x, *ends)


class TestSizes(PaperCase):
    def test_many_paths(self):
        begun = time.perf_counter()
        nothing = [when("i", name, 0, []) for name in ("a", "b", "k", "")] + [choose([]), choose([])]
        program = Program(("a", "b", "k"), (
            loop(nothing + [when("i", "k", -1, [], [OUT])], (), "i", ("", 0), ("a", 0)), ask("", "k", 0), ask("b", "k", 0),
        ))
        self.assertTrue(self.assert_paper(program, END, ("a", "k", 0)))
        self.assertTrue(self.assert_paper(program, OUT, ("", "a", -1)))
        self.assertEqual(len(paths(program, OUT)), 64)
        many = Program(("a", "k"), tuple(choose([]) for _ in range(8)) + (ask("a", "k", 0), loop([ask("i", "k", 0)], high=("a", 0))))
        self.assertTrue(self.assert_paper(many, END, ("a", "k", 0)))
        self.assertLess(time.perf_counter() - begun, MOST_SECONDS)

    def test_two_loops_with_many_paths(self):
        begun = time.perf_counter()

        def walls(x, low, high):
            return loop([when(x, name, 1, []) for name in ("a", "b", "k")] + [when(x, low, -1, [], [OUT])], (), x, ("", 0), high)

        program = Program(("a", "b", "k"), (ask("", "k", 0), walls("c", "b", ("a", 0)), walls("d", "k", ("b", 0))))
        self.assertTrue(self.assert_paper(program, END, ("a", "k", 0)))
        self.assertFalse(self.assert_paper(program, END, ("a", "k", -1)))
        self.assertLess(time.perf_counter() - begun, MOST_SECONDS)


class TestPaperFault(PaperCase):
    def setUp(self):
        super().setUp()
        self.program = Program(("n",), (choose([("set", "x", ("n", 1))], [choose([("set", "x", ("n", 2))], [("read", "x"), ask("n", "x", -3)])]),))
        self.literal = ("n", "x", -1)
        self.right = paper(self.program, END, self.literal)

    def fault(self, thing):
        return paper_fault(self.program, END, self.literal, thing)

    def test_right(self):
        self.assertEqual([path for path, tree in self.right], [(0,), (1, 0), (1, 1, 0)])
        self.assertIsNone(self.fault(self.right))
        self.assertIsNone(self.fault(list(self.right)))

    def test_spoilt_at_one_index(self):
        for at in range(3):
            path, tree = self.right[at]
            for item in (
                None, (), (path,), (path, tree, tree), [path, tree], (tree, path), (list(path), tree), (path + (0,), tree), (path[:-1], tree),
                ((True,) + path[1:], tree), ((False,) + path[1:], tree), (path, None), (path, ("ring", (0,))), (path, ("ring", (9,))),
                (path, list(tree)), (path, tree + (1,)), (None, tree), ("", tree), self.right[(at + 1) % 3],
            ):
                self.assertEqual(self.fault(self.right[:at] + [item] + self.right[at + 1:]), at, item)

    def test_the_least_index(self):
        self.assertEqual(self.fault([None, None, None]), 0)
        self.assertEqual(self.fault(self.right[:1] + [None, None]), 1)
        self.assertEqual(self.fault(self.right[:2] + [None, 1, 2]), 2)
        self.assertEqual(self.fault([self.right[1], self.right[0], self.right[2]]), 0)

    def test_an_item_less_or_more(self):
        for many in range(3):
            self.assertEqual(self.fault(self.right[:many]), many)
        for more in (None, self.right[2], ()):
            self.assertEqual(self.fault(self.right + [more]), 3)
            self.assertEqual(self.fault(self.right[:2] + [None, more]), 2)

    def test_another_literal(self):
        for number in range(-9, 5):
            found = paper_fault(self.program, END, ("n", "x", number), self.right)
            self.assertEqual(found, None if number >= -1 else 0, number)
        # By the second path n <= x - 2 holds, too.
        self.assertEqual(paper_fault(self.program, END, ("n", "x", -2), [self.right[0]] + self.right[1:]), 0)

    def test_it_does_not_look_at_whether_the_literal_holds(self):
        self.assertFalse(holds(self.program, END, ("n", "x", -2)))
        self.assertEqual(paper_fault(self.program, END, ("n", "x", -2), []), 0)

    def test_anything(self):
        for thing in odd_things():
            self.assertEqual(self.fault(thing), 0)
            self.assertEqual(self.fault(self.right[:1] + [thing]), 1)
            self.assertEqual(self.fault(self.right[:2] + [(self.right[2][0], thing)]), 2)
            if thing != (0,) or type(thing[0]) is not int:
                self.assertEqual(self.fault([(thing, self.right[0][1])] + self.right[1:]), 0)
            self.assertEqual(self.fault(self.right + [thing]), 3)
        self.assertEqual(self.fault(tuple(self.right)), 0)

    def test_nothing_is_changed(self):
        kept = frozen(self.right)
        self.fault(self.right)
        self.assertEqual(self.right, kept)
        self.right[0] = None
        self.assertEqual(paper(self.program, END, self.literal), kept)

    def test_papers_of_random_programs_that_are_spoilt(self):
        for _ in range(60):
            program = random_program(self.choice, size=7, weights=LOOPS)
            for way in ways(program):
                for literal in self.literals(program, way, 1):
                    found = paper(program, way, literal)
                    for at in range(len(found or [])):
                        self.assertEqual(paper_fault(program, way, literal, found[:at] + [(found[at][0], ("ring", ()))] + found[at + 1:]), at)


class TestErrors(PaperCase):
    def test_errors_in_their_order(self):
        many = Program(("n",), tuple(choose([]) for _ in range(9)))
        for way, literal, error, told in (
            (LATE, None, NoWay, {"way": LATE}), (END, None, NoLiterals, {"at": 0}), (END, ("n", "", True), NoLiterals, {"at": 0}),
            (END, ("x", "y", 0), NoName, {"term": "x"}), (END, ("n", "value", 0), NoName, {"term": "value"}),
            (END, ("n", "", 0), TooMany, {"most": 500}), (END, ("n", "n", 0), TooMany, {"most": 500}),
        ):
            for call in (lambda: paper(many, way, literal), lambda: paper_fault(many, way, literal, None), lambda: paper_fault(many, way, literal, [])):
                with self.assertRaises(error) as caught:
                    call()
                self.assertEqual(vars(caught.exception), told)

    def test_anything(self):
        for thing in odd_things():
            for call in (lambda: paper(BOUNDED, thing, None), lambda: paper_fault(BOUNDED, thing, None, None)):
                with self.assertRaises(NoWay) as caught:
                    call()
                self.assertTrue(is_same(caught.exception.way, thing))
            for call in (lambda: paper(BOUNDED, END, thing), lambda: paper_fault(BOUNDED, END, thing, [])):
                with self.assertRaises(NoLiterals) as caught:
                    call()
                self.assertEqual(caught.exception.at, 0)


if __name__ == "__main__":
    unittest.main()
