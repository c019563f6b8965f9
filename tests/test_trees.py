"""Trees: points 8.7 to 8.9."""

import unittest

from behindexits.errors import NoLiterals, NoPath
from behindexits.papers import paper
from behindexits.paths import facts_of, paths
from behindexits.programs import Program
from behindexits.trees import closes
from tests.short import AGAIN, END, LEAVE, OUT, ask, attempt, choose, loop, when
from tests.things import frozen, odd_things

BOUNDED = Program(("n", "k"), (
    when("", "k", 0, [], [("out", "low")]), loop([when("i", "k", -1, [], [("out", "over")])]),
))
BOUNDED_TREE = ("turn", 1, ("k", 0), (("ring", (0, 3)), ("ring", (2, 3)), ("ring", (3,))))
STAIRS = Program(("n", "k", "m"), (
    when("", "m", 0, [], [("out", "low")]), loop([when("i", "k", -1, [], [("out", "over")])]),
    loop([when("j", "m", -1, [], [("out", "over")])], (), "j", high=("k", 0)),
))
STAIRS_TREE = ("turn", 1, ("m", 0), (("ring", (0, 4)), ("ring", (3, 4)), (
    "turn", 2, ("m", 0), (("ring", (0, 5)), ("ring", (4, 5)), ("ring", (5,))),
)))


def spoilt(tree):
    """The tree, spoilt in one place in many ways: no result is a tree with the same meaning."""
    found = [None, (), [], 0, "ring", list(tree), tree + (1,), tree[:-1], (tree,), ("rings",) + tree[1:], (b"ring",) + tree[1:]]
    if tree[0] == "ring":
        indices = tree[1]
        found += [("ring", ()), ("ring", list(indices)), ("ring", indices[0]), ("ring", indices + indices[:1]), ("ring", {}), ("ring", None)]
        for at, index in enumerate(indices):
            for other in (index + 1, -1, index - 100, 99, None, "0", True if index == 1 else str(index), (index,), [index]):
                found.append(("ring", indices[:at] + (other,) + indices[at + 1:]))
        return found
    word, index, value, trees = tree
    for other in (-1, index + 1, index - 1, 99, None, str(index), bool(index), (index,)):
        found.append((word, other, value, trees))
    for other in (None, (), value[:1], list(value), value + (0,), (value[0], None), (value[0], True), (None, value[1]), (b"k", value[1]), value[::-1], value[0]):
        found.append((word, index, other, trees))
    for other in (list(trees), trees[:-1], trees[1:], trees + trees[-1:], (), None, dict(enumerate(trees))):
        found.append((word, index, value, other))
    for at, inner in enumerate(trees):
        for other in spoilt(inner):
            found.append((word, index, value, trees[:at] + (other,) + trees[at + 1:]))
    return found


class TreeCase(unittest.TestCase):
    def assert_closes(self, program, path, extra, tree):
        self.assertIs(closes(program, path, extra, tree), True)

    def assert_open(self, program, path, extra, tree):
        self.assertIs(closes(program, path, extra, tree), False, tree)


class TestExamples(TreeCase):
    def test_bounded(self):
        self.assert_closes(BOUNDED, (0, 0), (("k", "n", -1),), BOUNDED_TREE)
        self.assert_open(BOUNDED, (0, 0), (("k", "n", 0),), BOUNDED_TREE)
        self.assert_open(BOUNDED, (0, 0), (), BOUNDED_TREE)
        self.assert_open(BOUNDED, (0, 0), (("n", "k", -1),), BOUNDED_TREE)
        self.assert_open(BOUNDED, (1,), (("k", "n", -1),), BOUNDED_TREE)

    def test_bounded_with_other_values(self):
        for value in (("k", 1), ("k", -1), ("n", 0), ("", 0), ("1:k", 0), ("i", 0)):
            self.assert_open(BOUNDED, (0, 0), (("k", "n", -1),), ("turn", 1, value) + BOUNDED_TREE[3:])

    def test_stairs(self):
        self.assert_closes(STAIRS, (0, 0, 0), (("m", "n", -1),), STAIRS_TREE)
        self.assert_open(STAIRS, (0, 0, 0), (("m", "n", 0),), STAIRS_TREE)

    def test_spoilt_in_one_place(self):
        for program, path, extra, tree in (
            (BOUNDED, (0, 0), (("k", "n", -1),), BOUNDED_TREE), (STAIRS, (0, 0, 0), (("m", "n", -1),), STAIRS_TREE),
        ):
            for other in spoilt(tree):
                self.assert_open(program, path, extra, other)

    def test_another_order(self):
        trees = BOUNDED_TREE[3]
        for other in ((trees[1], trees[0], trees[2]), (trees[2], trees[1], trees[0])):
            self.assert_open(BOUNDED, (0, 0), (("k", "n", -1),), BOUNDED_TREE[:3] + (other,))


class TestRings(TreeCase):
    def setUp(self):
        self.program = Program(("a", "b", "c"), (ask("a", "b", 1), ask("b", "c", 2), ask("c", "a", -3), ask("c", "a", -4), ask("b", "b", -1)))
        self.path = (0,) * 5

    def test_rings(self):
        for indices, wanted in (
            ((0, 1, 3), True), ((1, 3, 0), True), ((3, 0, 1), True), ((0, 1, 2), False), ((3, 1, 0), False), ((1, 0, 3), False),
            ((4,), True), ((0, 4, 1, 3), True), ((0, 4, 1, 2), True), ((0,), False), ((4, 4), False), ((0, 1, 3, 3), False),
            ((0, 1), False), ((1, 3), False), ((), False), ((5,), False), ((-1,), False), ((-2, 0, 1), False),
        ):
            self.assertIs(closes(self.program, self.path, (), ("ring", indices)), wanted, indices)

    def test_extra(self):
        extra = (("c", "a", -4), ("", "", -1), ("any thing", "any thing", -1), ("no name", "c", -9), ("c", "no name", 5))
        for indices, wanted in (((5, 0, 1), True), ((6,), True), ((7,), True), ((8, 9), True), ((9, 8), True), ((10,), False), ((9,), False)):
            self.assertIs(closes(self.program, self.path, extra, ("ring", indices)), wanted)

    def test_many(self):
        extra = tuple((str(at), str(at + 1), 1) for at in range(1000)) + (("1000", "0", -1001),)
        self.assert_closes(Program((), ()), (), extra, ("ring", tuple(range(1001))))
        self.assert_open(Program((), ()), (), extra[:-1] + (("1000", "0", -1000),), ("ring", tuple(range(1001))))

    def test_a_ring_through_turns_is_none(self):
        self.assert_open(BOUNDED, (0, 0), (("k", "", -1),), ("ring", (0, 1, 2)))
        self.assert_closes(BOUNDED, (0, 0), (("k", "", -1),), ("ring", (0, 2)))
        self.assert_open(BOUNDED, (0, 0), (("k", "", -1),), ("ring", (1,)))


class TestTurns(TreeCase):
    def test_the_turn_that_is_below_or_not(self):
        """The first two cases alone: no turn passes by form."""
        program = Program(("n",), (loop([LEAVE], low=("n", 2), high=("n", 7)),))
        # Below the first turn says 0 <= n + 2 - 10 - 1, and not below the last one n <= 10 - 7.
        for most, least, wanted in ((8, 4, True), (9, 4, False), (8, 3, False), (6, 6, True), (0, 0, False)):
            extra = (("n", "", most), ("", "n", -least))
            tree = ("turn", 0, ("", 10), (("ring", (1, 3)), ("ring", (2, 3))))
            self.assertIs(closes(program, (0,), extra, tree), wanted, (most, least))

    def test_names_that_a_turn_sets(self):
        body = [("read", "x"), ask("i", "x", -1), ask("x", "n", 2)]
        program = Program(("n", "m"), (loop(body, high=("m", 0)),))
        # The turn i stands for n + 2; x for "1:x".
        tree = ("turn", 0, ("n", 2), (("ring", (1, 3)), ("ring", (2, 3)), ("ring", (3, 4))))
        extra = (("", "n", 2), ("n", "m", -3))
        self.assert_closes(program, (0,), extra, tree)
        self.assertEqual(facts_of(program, (0,)), [("turns", (0,), ("", 0), ("m", 0))])
        self.assert_open(program, (0,), (("", "n", 2), ("n", "m", -2)), tree)
        # Now i <= x - 1, which is n <= 1:x - 3, is all that is known of x.
        program = Program(("n", "m"), (loop(body[:2], high=("m", 0)),))
        for name, wanted in (("1:x", True), ("2:x", False), ("x", False), ("0:x", False), ("1:i", False), ("1:", False)):
            tree = ("turn", 0, ("n", 2), (("ring", (1, 4)), ("ring", (2, 4)), ("ring", (4, 3))))
            self.assertIs(closes(program, (0,), extra + ((name, "n", 2),), tree), wanted)

    def test_turns_within_turns(self):
        """The depth is in front of the names, and inner facts are read as the outer turn has them."""
        inner = loop([("read", "y"), ask("j", "y", -1), ask("y", "i", 0)], (), "j", ("", 0), ("m", 0))
        program = Program(("n", "m"), (loop([("set", "z", ("i", 1)), inner]),))
        # All turns j below m of the turn i have j <= i - 1: so m <= i, and m <= "" if the turn 0 is looked at.
        extra = (("", "n", -1), ("", "m", -1))
        tree = ("turn", 0, ("", 0), (
            ("ring", (3,)), ("ring", (1, 3)),
            ("turn", 5, ("", 0), (("ring", (6,)), ("ring", (2, 6)), ("ring", (6, 7)))),
        ))
        self.assert_closes(program, (0,), extra, tree)
        # The value "1:z" - 1 is the turn i itself.
        named = ("turn", 0, ("", 0), (
            ("ring", (3,)), ("ring", (1, 3)),
            ("turn", 5, ("1:z", -1), (("ring", (4, 6)), ("ring", (2, 6, 3)), ("ring", (6, 7, 4)))),
        ))
        self.assert_closes(program, (0,), extra, named)
        for other in ("2:z", "z", "0:z", "1:y", "i"):
            value = (other, -1)
            self.assert_open(program, (0,), extra, ("turn", 0, ("", 0), named[3][:2] + (named[3][2][:2] + (value,) + named[3][2][3:],)))
        for other in spoilt(tree):
            self.assert_open(program, (0,), extra, other)

    def test_the_same_turn_twice(self):
        """Names of the outer turn and of the inner one are not the same names."""
        program = Program(("n",), (loop([("read", "x")], high=("n", 0)),))
        extra = (("", "n", -1), ("1:x", "2:x", -1), ("2:x", "1:x", 0))
        tree = ("turn", 0, ("", 0), (("ring", (4,)), ("ring", (1, 4)), ("ring", (2, 3))))
        self.assert_closes(program, (0,), extra, tree)
        twice = ("turn", 0, ("", 0), (("ring", (4,)), ("ring", (1, 4)), (
            "turn", 0, ("", 0), (("ring", (4,)), ("ring", (1, 4)), ("ring", (2, 3))),
        )))
        self.assert_closes(program, (0,), extra, twice)
        body = [("read", "x"), ask("x", "", 0)]
        program = Program(("n",), (loop(body, high=("n", 0)),))
        extra = (("", "n", -1), ("", "2:x", -1))
        once = ("turn", 0, ("", 0), (("ring", (3,)), ("ring", (1, 3)), ("ring", (2, 3))))
        self.assert_open(program, (0,), extra, once)
        self.assert_closes(program, (0,), (extra[0], ("", "1:x", -1)), once)
        twice = ("turn", 0, ("", 0), (("ring", (3,)), ("ring", (1, 3)), (
            "turn", 0, ("", 0), (("ring", (4,)), ("ring", (1, 4)), ("ring", (2, 4))),
        )))
        self.assert_closes(program, (0,), extra, twice)

    def test_a_case_for_each_path_that_passes(self):
        body = [choose([AGAIN], [choose([LEAVE], [OUT])]), ]
        self.assertEqual(self.cases(body), 1)
        self.assertEqual(self.cases([choose([AGAIN]), when("i", "", 0, [], [LEAVE])]), 2)
        self.assertEqual(self.cases([OUT]), 0)
        self.assertEqual(self.cases([]), 1)
        self.assertEqual(self.cases([attempt([ask("i", "", 0), choose([])], [((), None, (choose([]),))])]), 4)
        self.assertEqual(self.cases([loop([choose([LEAVE])], (choose([]),), "j")]), 3)

    def cases(self, body):
        """How many trees stand behind the first two, as far as a tree says."""
        program = Program(("n",), (loop(body),))
        path = paths(program, END)[0]
        found = [many for many in range(9) if closes(program, path, (("", "", -1),), ("turn", 0, ("", 0), (("ring", (1,)),) * (2 + many)))]
        self.assertEqual(len(found), 1)
        return found[0]

    def test_cases_are_in_ascending_order(self):
        body = [when("i", "", 3, [], [AGAIN]), when("i", "", 1, [], [])]
        program = Program(("n",), (loop(body),))
        # The turn 2 passes by (0, 1): its case stays open.
        tree = ("turn", 0, ("", 2), (("ring", (2,)), ("ring", (1, 2)), ("ring", (3,)), ("ring", (2, 3)), ("ring", (2,))))
        self.assert_open(program, (0,), (("", "n", -9),), tree)
        extra = (("", "n", -9),)
        # Now it goes out there.
        program = Program(("n",), (loop([when("i", "", 3, [], [AGAIN]), when("i", "", 1, [], [OUT])]),))
        tree = ("turn", 0, ("", 2), (("ring", (2,)), ("ring", (1, 2)), ("ring", (3,)), ("ring", (2,))))
        self.assert_closes(program, (0,), extra, tree)
        self.assert_open(program, (0,), extra, tree[:3] + ((tree[3][0], tree[3][1], tree[3][3], tree[3][2]),))

    def test_errors_that_are_caught_in_a_turn(self):
        body = [attempt([("raise", "late", ("i", 2))], [((), "e", (ask("e", "n", 0),))])]
        program = Program(("n",), (loop(body, high=("n", 5)),))
        # e = i + 2 <= n in each turn: the turn n - 1 is looked at. (1:e <= n + 1, n <= 1:e - 1, 1:e <= n.)
        extra = (("", "n", -9),)
        tree = ("turn", 0, ("n", -1), (("ring", (1, 2)), ("ring", (2,)), ("ring", (3, 4))))
        self.assert_closes(program, (0,), extra, tree)


class TestErrors(TreeCase):
    def test_no_path(self):
        for path in ((), (0,), (0, 0, 0), (2, 0), (0, False), [0, 0], None, "00", (0, "0")):
            with self.assertRaises(NoPath):
                closes(BOUNDED, path, None, BOUNDED_TREE)

    def test_extra(self):
        right = ("k", "n", -1)
        for extra, at in (
            (None, -1), ([right], -1), ({}, -1), ("", -1), ((None,), 0), ((right, ("k", "n")), 1), ((right, right, ("k", "n", True)), 2),
            ((list(right), None), 0), ((right, ("k", 1, 0)), 1), ((right, right + (0,)), 1),
        ):
            with self.assertRaises(NoLiterals) as caught:
                closes(BOUNDED, (0, 0), extra, BOUNDED_TREE)
            self.assertEqual(caught.exception.at, at)

    def test_anything(self):
        for thing in odd_things():
            self.assert_open(BOUNDED, (0, 0), (("k", "n", -1),), thing)
            self.assert_open(BOUNDED, (0, 0), (("k", "n", -1),), ("ring", thing))
            self.assert_open(BOUNDED, (0, 0), (("k", "n", -1),), ("turn", 1, ("k", 0), thing))
            self.assert_open(BOUNDED, (0, 0), (("k", "n", -1),), ("turn", 1, thing, BOUNDED_TREE[3]))
            self.assert_open(BOUNDED, (0, 0), (("k", "n", -1),), ("turn", 1, ("k", 0), BOUNDED_TREE[3][:2] + (thing,)))
            if not (type(thing) is int and thing == 1):
                self.assert_open(BOUNDED, (0, 0), (("k", "n", -1),), ("turn", thing, ("k", 0), BOUNDED_TREE[3]))
            if thing not in ((), (("", "", 0),)):
                with self.assertRaises(NoLiterals):
                    closes(BOUNDED, (0, 0), thing, BOUNDED_TREE)
            if not (isinstance(thing, tuple) and thing == (1,) and type(thing[0]) is int):
                with self.assertRaises(NoPath):
                    closes(BOUNDED, thing, (), BOUNDED_TREE)

    def test_nested_deep(self):
        program = Program(("n",), (loop([("read", "x")]),))
        tree = ("ring", (1,))
        for _ in range(25):
            tree = ("turn", 0, ("n", 0), (("ring", (1,)), ("ring", (1,)), tree))
        self.assert_closes(program, (0,), (("", "", -1),), tree)
        self.assert_open(program, (0,), (("", "", 0),), tree)

    def test_nothing_is_changed(self):
        extra = (("k", "n", -1),)
        kept = frozen((extra, BOUNDED_TREE, BOUNDED.block))
        closes(BOUNDED, (0, 0), extra, BOUNDED_TREE)
        self.assertEqual((extra, BOUNDED_TREE, BOUNDED.block), kept)

    def test_papers_of_the_examples(self):
        for program, literal in ((BOUNDED, ("n", "k", 0)), (STAIRS, ("n", "m", 0))):
            for path, tree in paper(program, END, literal):
                left, right, number = literal
                self.assert_closes(program, path, ((right, left, -number - 1),), tree)


if __name__ == "__main__":
    unittest.main()
