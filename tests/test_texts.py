"""Texts: points 12.1 and 12.2."""

import random
import unittest

from behindexits.errors import BadProgram, BadText
from behindexits.programs import Program
from behindexits.texts import read, shown
from tests.makes import EVEN, TRIES, random_program
from tests.short import AGAIN, LEAVE, OUT, ask, attempt, choose, loop, when
from tests.things import odd_things

BIG = 10 ** 99


def rows(*found):
    return "\n".join(found)


class TextCase(unittest.TestCase):
    def assert_text(self, program, *wanted):
        self.assertEqual(shown(program), rows(*wanted))
        found = read(rows(*wanted))
        self.assertEqual((found.inputs, found.block), (program.inputs, program.block))

    def assert_wrong(self, row, *found):
        with self.assertRaises(BadText) as caught:
            read(rows(*found))
        self.assertIs(type(caught.exception), BadText)
        self.assertEqual(vars(caught.exception), {"row": row}, found)

    def assert_right(self, *found):
        """All rows are right; maybe it is no program all the same."""
        try:
            program = read(rows(*found))
        except BadProgram:
            return None
        self.assertEqual(shown(program), rows(*found))
        return program


class TestShown(TextCase):
    def test_inputs(self):
        self.assert_text(Program((), ()), "inputs")
        self.assert_text(Program(("n",), ()), "inputs n")
        self.assert_text(Program(("k", "abcdefgh", "a"), ()), "inputs k abcdefgh a")

    def test_values(self):
        for value, text in (
            (("", 0), "0"), (("", 3), "3"), (("", -3), "-3"), (("n", 0), "n"), (("n", 3), "n + 3"), (("n", -3), "n - 3"),
            (("", BIG), str(BIG)), (("", -BIG), "-" + str(BIG)), (("n", BIG), "n + " + str(BIG)), (("n", -BIG), "n - " + str(BIG)), (("", 10), "10"),
        ):
            self.assert_text(Program(("n",), (("set", "x", value),)), "inputs n", "set x = " + text)
            self.assert_text(Program(("n",), (("raise", "late", value),)), "inputs n", "raise late " + text)
            self.assert_text(
                Program(("n",), (("for", "i", value, value, (), ()),)), "inputs n", "for i from " + text + " below " + text,
            )
            term, number = value
            self.assert_text(Program(("n",), (ask("n", term, number),)), "inputs n", "ask n <= " + text + " or late")
            self.assert_text(Program(("n",), (ask("", term, number),)), "inputs n", "ask 0 <= " + text + " or late")

    def test_plain_statements(self):
        self.assert_text(Program((), (("read", "x"), OUT)), "inputs", "read x", "out done")
        self.assert_text(
            Program(("n",), (loop([choose([LEAVE], [AGAIN])]),)), "inputs n", "for i from 0 below n", "  choose", "    leave", "  else", "    again",
        )

    def test_if_and_choose(self):
        self.assert_text(Program(("n",), (when("n", "", 2, []),)), "inputs n", "if n <= 2")
        self.assert_text(Program(("n",), (when("n", "", 2, [("read", "x")]), OUT)), "inputs n", "if n <= 2", "  read x", "out done")
        self.assert_text(Program(("n",), (when("n", "", 2, [], [OUT]),)), "inputs n", "if n <= 2", "else", "  out done")
        self.assert_text(
            Program(("n",), (choose([when("n", "n", -1, [OUT], [choose([])])], [("read", "x")]),)),
            "inputs n", "choose", "  if n <= n - 1", "    out done", "  else", "    choose", "else", "  read x",
        )

    def test_loops(self):
        self.assert_text(Program(("n",), (loop([]),)), "inputs n", "for i from 0 below n")
        self.assert_text(
            Program(("n",), (loop([("read", "x")], [("set", "i", ("", -1))], low=("n", -2), high=("", 7)),)),
            "inputs n", "for i from n - 2 below 7", "  read x", "else", "  set i = -1",
        )
        self.assert_text(Program(("n",), (loop([], [OUT]),)), "inputs n", "for i from 0 below n", "else", "  out done")

    def test_tries(self):
        self.assert_text(Program((), (attempt([]),)), "inputs", "try")
        self.assert_text(Program((), (attempt([], [((), None, ())]),)), "inputs", "try", "catch any")
        self.assert_text(
            Program(("n",), (attempt([ask("n", "", 0)], [(("late", "big"), None, ()), (("far",), "e", (OUT,)), ((), "h", (("read", "x"),))], [("read", "y")], [("read", "z")]),)),
            "inputs n", "try", "  ask n <= 0 or late", "catch late big", "catch far as e", "  out done", "catch any as h", "  read x", "else", "  read y", "always", "  read z",
        )
        self.assert_text(Program((), (attempt([], (), (), [OUT]),)), "inputs", "try", "always", "  out done")
        self.assert_text(
            Program((), (attempt([attempt([OUT], (), (), [("read", "x")])], (), (), [("read", "y")]),)),
            "inputs", "try", "  try", "    out done", "  always", "    read x", "always", "  read y",
        )

    def test_many_programs(self):
        choice = random.Random(121)
        for at in range(1500):
            size = choice.choice((0, 1, 3, 6, 10, 20))
            inputs = choice.choice(((), ("n",), ("k", "n"), ("b", "n", "a")))
            program = random_program(choice, inputs, size, choice.choice((1, 12, BIG)), choice.choice((EVEN, TRIES)))
            text = shown(program)
            found = read(text)
            self.assertEqual(found, program)
            self.assertEqual(shown(found), text)
            self.assertTrue(all(row == row.rstrip() and row for row in text.split("\n")))

    def test_nested_deep(self):
        block = (("read", "x"),)
        for at in range(28):
            block = (choose(block),)
        program = Program((), block)
        self.assertEqual(shown(program).split("\n")[-1], " " * 56 + "read x")
        self.assertEqual(read(shown(program)), program)


class TestRead(TextCase):
    def test_no_string_of_characters(self):
        for thing in odd_things():
            with self.assertRaises(BadText) as caught:
                read(thing)
            self.assertEqual(caught.exception.row, 1 if isinstance(thing, str) and thing.isascii() and "\n" not in thing or thing == "a\n" else 0)
        for text in ("inputs\tn", "inputs n\r\nread x", "inputs \u00e9", "inputs\x00", "inputs\x7f", "inputs n\nread x\u2028", b"inputs"):
            with self.assertRaises(BadText) as caught:
                read(text)
            self.assertEqual(caught.exception.row, 0)

    def test_the_first_row(self):
        for row in ("", " ", "input", "Inputs", " inputs", "inputs ", "inputs  n", "inputs n n", "inputs N", "inputs for", "inputs value", "inputs abcdefghi", "inputs 1", "read x", "inputs n,k"):
            self.assert_wrong(1, row)
            self.assert_wrong(1, row, "read x", "nothing")

    def test_empty_rows(self):
        self.assert_wrong(2, "inputs", "")
        self.assert_wrong(2, "inputs", "", "read x")
        self.assert_wrong(3, "inputs", "read x", "")
        self.assert_wrong(3, "inputs", "choose", "  ", "  read x")
        self.assert_wrong(1, "")

    def test_forms(self):
        for row in (
            "set", "set x", "set x =", "set x 3", "set x = ", "set = 3", "set for = 3", "set x = y + 0", "set x = 0 + 3", "set x = 007", "set x = -0",
            "set x = +3", "set x = y + -3", "set x = y - 0", "set x = y+3", "set x = y +3", "set x = 3 + y", "set x = y + z", "set x = - 3", "set x = y * 3",
            "set x = 00", "set x = 1" + "0" * 100, "set x = y - 1" + "0" * 100, "set x = y + 03", "set x = 3 4", "set x = y 3", "set x = y + 3 + 3", "set x == 3",
            "set x = 1_0", "set x = value", "set x = Y", "set  x = 3", "set x = 3 ", "set X = 3", "set abcdefghi = 3", "read", "read x y", "read 3", "read value", "read x ",
            "ask n <= 3", "ask n <= 3 or", "ask n <= 3 or end", "ask n < 3 or late", "ask 3 <= n or late", "ask n + 1 <= 3 or late", "ask <= 3 or late", "ask n <= or late",
            "ask n <= 3 late", "ask 0 <= 0 + 3 or late", "ask -0 <= 3 or late", "ask 00 <= 3 or late", "ask n <= 3 or late big", "raise", "raise late", "raise 3", "raise late x y",
            "raise value 3", "raise late as", "out", "out 3", "out raise", "out done done", "leave now", "again x", "if", "if n", "if n <=", "if n <= ", "if 1 <= n", "if n <= 3 or late",
            "if n >= 3", "choose x", "for", "for i", "for i from 0", "for i from 0 below", "for i from below 3", "for from 0 below 3", "for i in 0 below 3", "for i from 0 to 3",
            "for i from 0 below 3 below 4", "for i from 0 + 1 below 3", "for i below 3 from 0", "for 3 from 0 below 3", "try x", "try:", "else x", "always x", "catch",
            "catch any late", "catch late late", "catch late any", "catch as e", "catch late as", "catch late as as", "catch late as e f", "catch late as any", "catch any any",
            "catch late as e as f", "catch Late", "catch late as value", "inputs", "inputs n", "return", "none", "x = 3", "SET x = 3", "choose ", "leave ",
        ):
            self.assert_wrong(2, "inputs n", row)
            self.assert_wrong(4, "inputs n", "try", "  read x", "  " + row)

    def test_right_forms(self):
        for row in ("set x = " + "9" * 100, "set x = -" + "9" * 100, "set x = y + " + "9" * 100, "ask 0 <= 0 or late", "raise x x", "out x", "out late", "if x <= x + 1"):
            self.assert_right("inputs n", row)

    def test_indents(self):
        for row in (" read x", "   read x", "    read x"):
            self.assert_wrong(3, "inputs", "choose", row)
        self.assert_wrong(2, "inputs", "  read x")
        self.assert_wrong(2, "inputs", " read x")
        self.assert_wrong(3, "inputs", "read x", "  read y")
        self.assert_wrong(4, "inputs", "choose", "  read x", "    read y")
        self.assert_wrong(4, "inputs", "choose", "  read x", " read y")
        self.assert_wrong(3, "inputs", "choose", "      read y")
        for row in ("set x = 1", "read x", "ask n <= 1 or late", "raise late 1", "out done"):
            self.assert_wrong(3, "inputs n", row, "  read y")
        for row in ("leave", "again"):
            self.assert_wrong(4, "inputs n", "for i from 0 below n", "  " + row, "    read y")
        for row in ("if n <= 3", "choose", "for i from 0 below n", "try"):
            self.assert_right("inputs n", row, "  read y")
            self.assert_wrong(3, "inputs n", row, "    read y")
        self.assert_right("inputs n", "choose", "  choose", "    choose", "      read x", "read y")
        self.assert_right("inputs n", "choose", "  choose", "    choose", "      read x", "  read y")

    def test_tails_that_belong_to_nothing(self):
        for tail in ("else", "always", "catch any"):
            self.assert_wrong(2, "inputs", tail, "  read y")
            self.assert_wrong(3, "inputs", "read x", tail, "  read y")
            self.assert_wrong(4, "inputs", "choose", "  read x", "  " + tail, "    read y")
            self.assert_wrong(3, "inputs", "choose", "  " + tail, "    read y")
            self.assert_wrong(5, "inputs", "try", "  read x", "read y", tail, "  read z")
            self.assert_wrong(5, "inputs", "choose", "  try", "choose", "  " + tail, "    read z")
        for head in ("if n <= 3", "choose", "for i from 0 below n"):
            self.assert_wrong(4, "inputs n", head, "  read x", "always", "  read y")
            self.assert_wrong(4, "inputs n", head, "  read x", "catch any", "  read y")
            self.assert_right("inputs n", head, "  read x", "else", "  read y")
            for tail in ("else", "always", "catch any"):
                self.assert_wrong(6, "inputs n", head, "  read x", "else", "  read y", tail, "  read z")

    def test_tails_of_a_try_in_their_order(self):
        tails = {"catch": ("catch any",), "else": ("else", "  choose"), "always": ("always", "  choose")}
        for first in tails:
            for second in tails:
                found = ("inputs", "try") + tails[first] + tails[second]
                if (first, second) in (("catch", "catch"), ("catch", "else"), ("catch", "always"), ("else", "always")):
                    self.assert_right(*found)
                else:
                    self.assert_wrong(3 + len(tails[first]), *found)
        self.assert_right("inputs", "try", "catch a", "catch b as x", "  read y", "catch any", "else", "  choose", "always", "  choose")
        self.assert_wrong(6, "inputs", "try", "catch a", "catch b", "catch c", "catch d")
        self.assert_wrong(7, "inputs", "try", "catch a", "else", "  choose", "  choose", "catch d")

    def test_tails_without_rows(self):
        for tail in ("else", "always"):
            self.assert_wrong(3, "inputs", "try", tail)
            self.assert_wrong(3, "inputs", "try", tail, "read x")
            self.assert_wrong(3, "inputs", "try", tail, "    read x")
            self.assert_wrong(3, "inputs", "try", tail, " read x")
            self.assert_wrong(3, "inputs", "try", tail, "")
            # The row behind it stands as it should, and is wrong by itself.
            self.assert_wrong(4, "inputs", "try", tail, "  reed x")
            self.assert_wrong(4, "inputs", "try", tail, "  else")
            self.assert_wrong(4, "inputs", "choose", "  try", "  " + tail, "  read x")
        self.assert_wrong(4, "inputs", "choose", "  choose", "  else", "else", "  read x")
        self.assert_right("inputs", "try", "catch any", "read x")
        self.assert_right("inputs", "try")

    def test_the_row_that_comes_first(self):
        self.assert_wrong(3, "inputs n", "read x", "reed y", "  read z", "else")
        self.assert_wrong(4, "inputs n", "if n <= 3", "  read x", "    read y", "reed z")
        self.assert_wrong(2, "inputs n", "else", "nothing")
        self.assert_wrong(1, "inputs n n", "nothing")

    def test_a_line_feed_at_the_end(self):
        for text in ("inputs\n", "inputs n\nread x\n", "\n", "inputs\n\n"):
            with self.assertRaises(BadText) as caught:
                read(text)
            self.assertEqual(caught.exception.row, {"inputs\n": 2, "inputs n\nread x\n": 3, "\n": 1, "inputs\n\n": 2}[text])

    def test_right_rows_that_are_no_program(self):
        for found, place, why in (
            (("inputs", "leave"), (0,), "loop"), (("inputs n", "set n = 3"), (0,), "name"), (("inputs", "set x = y"), (0,), "term"),
            (("inputs", "out a", "out b"), (1,), "dead"), (("inputs n", "if n <= 3", "  read x", "ask x <= 3 or late"), (1,), "term"),
            (("inputs", "try", "  out a", "else", "  read x"), (0, 1, 0), "dead"), (("inputs", "choose", "else", "  again"), (0, 1, 0), "loop"),
            (("inputs n", "for n from 0 below 3"), (0,), "name"), (("inputs", "read x", "read x"), (1,), "name"),
        ):
            with self.assertRaises(BadProgram) as caught:
                read(rows(*found))
            self.assertEqual(vars(caught.exception), {"place": place, "why": why})

    def test_changed_texts(self):
        """A text with a changed row is that of another program, or is wrong in the row or behind it."""
        choice = random.Random(122)
        wrong = 0
        for _ in range(400):
            found = shown(random_program(choice, size=7, weights=choice.choice((EVEN, TRIES)))).split("\n")
            at = choice.randrange(len(found))
            row = found[at]
            changes = [row + " ", " " + row, "  " + row, row[2:], row[1:], row[:-1], row.upper(), row.replace(" ", "  ", 1), row + " x", "else", "  else", ""]
            text = found[:at] + [choice.choice(changes)] + found[at + 1:]
            try:
                self.assertEqual(shown(read(rows(*text))), rows(*text))
            except BadText as error:
                wrong += 1
                self.assertTrue(error.row in (at, at + 1) or error.row > at, (error.row, text))
                with self.assertRaises(BadText) as caught:
                    read(rows(*(text[:error.row] + ["nothing"])))
                self.assertIn(caught.exception.row, (error.row, error.row - 1, error.row + 1))
            except BadProgram:
                pass
        self.assertGreater(wrong, 200)


if __name__ == "__main__":
    unittest.main()
