"""Literals: points 1.1 and 1.2."""

import random
import unittest

from behindexits.differences import is_ring, solved
from behindexits.errors import NoLiterals
from tests.things import frozen, odd_things

BIG = 10 ** 99


def terms_of(literals):
    return {term for left, right, _ in literals for term in (left, right)} - {""}


def holds_with(literals, values):
    numbers = dict(values)
    numbers[""] = 0
    return all(numbers[left] <= numbers[right] + number for left, right, number in literals)


def is_plain_ring(literals, indices):
    """The words of 1.2, one by one."""
    if not isinstance(indices, tuple) or len(indices) == 0:
        return False
    if any(isinstance(index, bool) or not isinstance(index, int) for index in indices):
        return False
    if any(index < 0 or index >= len(literals) for index in indices) or len(set(indices)) != len(indices):
        return False
    chosen = [literals[index] for index in indices]
    joined = all(chosen[at][1] == chosen[(at + 1) % len(chosen)][0] for at in range(len(chosen)))
    return joined and sum(literal[2] for literal in chosen) < 0


def has_values(literals, most):
    """Whether there are values from -most to most, looked for one by one; good for small numbers only."""
    terms = sorted(terms_of(literals))

    def search(values):
        if len(values) == len(terms):
            return holds_with(literals, values)
        return any(search({**values, terms[len(values)]: value}) for value in range(-most, most + 1))

    return search({})


class TestSolved(unittest.TestCase):
    def judge(self, literals):
        before = frozen(literals)
        answer = solved(literals)
        self.assertEqual(literals, before)
        self.assertIsInstance(answer, tuple)
        self.assertEqual(len(answer), 2)
        if answer[0] == "values":
            self.assertIs(type(answer[1]), dict)
            self.assertEqual(set(answer[1]), terms_of(literals))
            for value in answer[1].values():
                self.assertIs(type(value), int)
            self.assertTrue(holds_with(literals, answer[1]))
        else:
            self.assertEqual(answer[0], "ring")
            self.assertTrue(is_plain_ring(literals, answer[1]), (literals, answer))
            self.assertIs(is_ring(literals, answer[1]), True)
        return answer[0]

    def test_no_literals(self):
        self.assertEqual(solved([]), ("values", {}))
        self.assertEqual(solved(()), ("values", {}))

    def test_only_zero(self):
        self.assertEqual(solved([("", "", 0)]), ("values", {}))
        self.assertEqual(solved([("", "", -1)]), ("ring", (0,)))

    def test_a_term_and_itself(self):
        self.assertEqual(self.judge([("a", "a", 0)]), "values")
        self.assertEqual(self.judge([("a", "a", 5), ("a", "b", -3)]), "values")
        self.assertEqual(self.judge([("a", "b", 1), ("a", "a", -1)]), "ring")

    def test_zero_is_zero(self):
        self.assertEqual(solved((("a", "", 7), ("", "a", -7))), ("values", {"a": 7}))
        self.assertEqual(solved((("a", "", -7), ("", "a", 7))), ("values", {"a": -7}))
        self.assertEqual(self.judge((("a", "", -8), ("", "a", 7))), "ring")

    def test_a_chain(self):
        self.assertEqual(self.judge([("a", "b", -1), ("b", "c", -1), ("c", "", 0)]), "values")
        self.assertEqual(self.judge([("a", "b", -1), ("b", "c", -1), ("c", "a", 2)]), "values")
        self.assertEqual(self.judge([("a", "b", -1), ("b", "c", -1), ("c", "a", 1)]), "ring")

    def test_any_strings_are_terms(self):
        odd = ["value", "x y", "0", "A", "set", "\u00e9", "abcdefghij", "\n", "1:y"]
        self.assertEqual(self.judge([(term, odd[at - 1], at) for at, term in enumerate(odd)]), "values")
        self.assertEqual(self.judge([(term, odd[at - 1], -1) for at, term in enumerate(odd)]), "ring")

    def test_the_same_literal_twice(self):
        self.assertEqual(self.judge([("a", "b", 1), ("a", "b", 1)]), "values")
        self.assertEqual(self.judge([("a", "b", -1), ("a", "b", -1), ("b", "a", 0)]), "ring")

    def test_numbers_of_many_digits(self):
        self.assertEqual(self.judge([("a", "b", -BIG), ("b", "", 10 ** 40)]), "values")
        self.assertEqual(self.judge([("a", "b", -BIG), ("b", "a", BIG)]), "values")
        self.assertEqual(self.judge([("a", "b", -BIG), ("b", "a", BIG - 1)]), "ring")
        self.assertEqual(self.judge([("a", "b", 10 ** 41), ("b", "a", -10 ** 41 - 1)]), "ring")

    def test_300_literals(self):
        chain = [("t" + str(at), "t" + str(at + 1), -BIG) for at in range(299)]
        for literals in (chain, chain[::-1]):
            self.assertEqual(self.judge(literals + [("t299", "t0", 299 * BIG)]), "values")
            self.assertEqual(self.judge(literals + [("t299", "t0", 299 * BIG - 1)]), "ring")
        pairs = [("l" + str(at), "r" + str(at), -at) for at in range(300)]
        self.assertEqual(self.judge(tuple(pairs)), "values")

    def test_all_small_lists(self):
        choice = random.Random(11)
        seen = {"values": 0, "ring": 0}
        for _ in range(1500):
            terms = ["", "a", "b", "c"][:choice.randint(1, 4)]
            literals = []
            for _ in range(choice.randint(0, 6)):
                literals.append((choice.choice(terms), choice.choice(terms), choice.randint(-2, 1)))
            answer = self.judge(literals)
            seen[answer] += 1
            # No way without a ring goes over more than three of these literals, and none is more than 2.
            self.assertEqual(answer == "values", has_values(literals, 6), literals)
        self.assertGreater(min(seen.values()), 300)

    def test_larger_lists_are_judged(self):
        choice = random.Random(12)
        for _ in range(300):
            terms = [""] + ["t" + str(at) for at in range(choice.randint(1, 40))]
            many = choice.randint(1, 120)
            low = choice.choice((-30, -3, 0))
            literals = [(choice.choice(terms), choice.choice(terms), choice.randint(low, 60)) for _ in range(many)]
            self.judge(literals)

    def test_returned_values_are_new(self):
        literals = [("a", "", 1)]
        first = solved(literals)[1]
        first["a"] = 100
        first["b"] = 1
        self.assertEqual(set(solved(literals)[1]), {"a"})


class TestIsRing(unittest.TestCase):
    literals = [("a", "b", -1), ("b", "c", 0), ("c", "a", 0), ("b", "a", 1), ("a", "a", -1), ("a", "b", -1), ("", "", -2)]

    def test_rings(self):
        for indices in ((0, 1, 2), (1, 2, 0), (2, 0, 1), (4,), (6,), (5, 1, 2), (0, 1, 2, 4), (4, 0, 1, 2)):
            self.assertIs(is_ring(self.literals, indices), True, indices)
            self.assertIs(is_ring(tuple(self.literals), indices), True, indices)

    def test_no_rings(self):
        for indices in ((), (0,), (0, 1), (0, 3), (2, 1, 0), (0, 2, 1), (0, 1, 2, 0, 1, 2), (4, 4), (0, 1, 2, 6)):
            self.assertIs(is_ring(self.literals, indices), False, indices)

    def test_a_sum_of_zero_is_none(self):
        self.assertIs(is_ring([("a", "b", -1), ("b", "a", 1)], (0, 1)), False)
        self.assertIs(is_ring([("a", "b", -1), ("b", "a", 0)], (0, 1)), True)

    def test_indices_out_of_range(self):
        for indices in ((7,), (-1,), (-3,), (0, 1, 9), (10 ** 50,), (4, 10 ** 99)):
            self.assertIs(is_ring(self.literals, indices), False, indices)

    def test_indices_of_other_kinds(self):
        self.assertIs(is_ring(self.literals, [0, 1, 2]), False)
        self.assertIs(is_ring(self.literals, {0: 1, 1: 2}), False)
        single = [("a", "a", -1), ("a", "a", -1)]
        self.assertIs(is_ring(single, (1,)), True)
        self.assertIs(is_ring(single, (True,)), False)
        self.assertIs(is_ring(single, (False,)), False)
        self.assertIs(is_ring(single, (1, True)), False)
        self.assertIs(is_ring(single, (1 + 0j,)), False)

    def test_anything_may_be_asked(self):
        for thing in odd_things():
            self.assertIs(is_ring([], thing), False)
            self.assertIs(is_ring([("a", "b", -1)], thing), False)

    def test_like_the_words_of_the_point(self):
        choice = random.Random(13)
        found = 0
        for _ in range(4000):
            literals = []
            for _ in range(choice.randint(1, 4)):
                literals.append((choice.choice("ab"), choice.choice("ab"), choice.randint(-2, 1)))
            indices = tuple(choice.randint(-1, len(literals)) for _ in range(choice.randint(0, 4)))
            self.assertIs(is_ring(literals, indices), is_plain_ring(literals, indices))
            found += is_plain_ring(literals, indices)
        self.assertGreater(found, 60)


class TestWrongLiterals(unittest.TestCase):
    def assert_at(self, literals, at):
        with self.assertRaises(NoLiterals) as caught:
            solved(literals)
        self.assertEqual(caught.exception.at, at)
        for indices in ((0,), [], None):
            with self.assertRaises(NoLiterals) as caught:
                is_ring(literals, indices)
            self.assertEqual(caught.exception.at, at)

    def test_no_list(self):
        for thing in odd_things():
            if not isinstance(thing, (list, tuple)):
                self.assert_at(thing, -1)

    def test_too_many(self):
        good = [("a", "b", 1)] * 300
        self.assertEqual(solved(good)[0], "values")
        self.assertEqual(solved(tuple(good))[0], "values")
        self.assert_at(good + [("a", "b", 1)], -1)
        self.assert_at(tuple(good) + (None,), -1)
        self.assert_at([None] * 301, -1)

    def test_the_first_wrong_item(self):
        good = ("a", "b", 1)
        for wrong in (
            ["a", "b", 1], ("a", "b"), ("a", "b", 1, 1), ("a", "b", True), ("a", "b", False), ("a", "b", None),
            ("a", "b", "1"), (1, "b", 1), ("a", None, 1), (b"a", "b", 1), ("a", ["b"], 1), ((), "b", 1), ("a", "b", 1j),
            "abc", None, {}, {"a": 1}, ("a", "b", [1]), (), [],
        ):
            self.assert_at([wrong], 0)
            self.assert_at((good, wrong), 1)
            self.assert_at([good, good, wrong, good, None], 2)
            self.assert_at([good] * 299 + [wrong], 299)

    def test_odd_items(self):
        for thing in odd_things():
            self.assert_at([("a", "b", 1), thing], 1)


if __name__ == "__main__":
    unittest.main()
