"""Programs, their statements and their places: points 3.1, 3.2, 3.6 (inputs and form) and 3.7."""

import unittest

from behindexits.errors import BadProgram, NoPlace
from behindexits.programs import Program
from tests.things import frozen, odd_things

ZERO = ("", 0)
SAME = ("n", "n", 0)
# One good statement of each shape; leave and again need a loop.
GOOD = {
    "set": ("set", "x", ("n", -3)),
    "read": ("read", "x"),
    "if": ("if", ("n", "", 4), (), ()),
    "choose": ("choose", (), ()),
    "ask": ("ask", ("", "n", 0), "late"),
    "raise": ("raise", "late", ("", 1)),
    "out": ("out", "done"),
    "leave": ("leave",),
    "again": ("again",),
    "for": ("for", "x", ("", 0), ("n", 0), (), ()),
    "try": ("try", (), (), (), ()),
}
BARRED = (
    "again always any as ask below catch choose else end error for from if inputs leave none or out raise read return "
    "set try value"
).split()


class ProgramCase(unittest.TestCase):
    def assert_bad(self, place, why, block, inputs=("n",)):
        with self.assertRaises(BadProgram) as caught:
            Program(inputs, block)
        self.assertIs(type(caught.exception), BadProgram)
        self.assertEqual((caught.exception.place, caught.exception.why), (place, why))

    def assert_form(self, statement):
        """Wrong by itself, behind another statement, and in a loop behind a wrong name."""
        self.assert_bad((0,), "form", (statement,))
        self.assert_bad((1,), "form", (("read", "zz"), statement))
        self.assert_bad((0, 0, 0), "form", (("for", "zz", ZERO, ZERO, (statement,), ()),))
        self.assert_bad((0, 1, 0), "form", (("choose", (), (statement,)),))


class TestShapes(ProgramCase):
    def test_each_shape(self):
        for statement in GOOD.values():
            program = Program(("n",), (("for", "zz", ZERO, ZERO, (statement,), ()),))
            self.assertEqual(program[(0, 0, 0)], statement)

    def test_the_empty_program(self):
        self.assertEqual(Program((), ()).places(), [])
        self.assertEqual(Program(("n", "k", "a"), ()).inputs, ("n", "k", "a"))

    def test_its_values(self):
        block = (("read", "x"),)
        program = Program(("n",), block)
        self.assertEqual(program.inputs, ("n",))
        self.assertEqual(program.block, block)

    def test_wrong_inputs(self):
        for inputs in (
            ["n"], "n", None, {"n": 1}, ("n", "n"), ("value",), ("",), ("N",), (1,), (True,), (None,), (["n"],), (("n",),),
            ("abcdefghi",), (b"n",), ("n1",), ("n", "k", "n"),
        ) + tuple((word,) for word in BARRED):
            for block in ((), None, ((),)):
                self.assert_bad((), "inputs", block, inputs)
        for thing in odd_things():
            if thing not in ((), ("a",), ("a", "b"), ("n",)):
                self.assert_bad((), "inputs", (), thing)

    def test_a_block_that_is_no_tuple(self):
        for thing in odd_things():
            if not isinstance(thing, tuple):
                self.assert_bad((), "form", thing)

    def test_statements_of_other_kinds(self):
        for thing in odd_things():
            self.assert_form(thing)
        for wrong in (("end",), ("loop",), ("Set", "x", ZERO), ("", "x"), (b"leave",), (["leave"],), (0,), ["leave"], "leave"):
            self.assert_form(wrong)

    def test_lengths(self):
        for word, statement in GOOD.items():
            self.assert_form(statement + ((),))
            self.assert_form(statement + ("x",))
            self.assert_form(statement[:-1])
            self.assert_form(list(statement))
        self.assert_form(("try", (), (), ()))

    def test_every_part_of_every_statement(self):
        odd = odd_things()
        names = [thing for thing in odd if not (isinstance(thing, str) and thing in ("a", "n"))]
        for word, at in (("set", 1), ("read", 1), ("ask", 2), ("raise", 1), ("out", 1), ("for", 1)):
            for thing in names + BARRED + ["abcdefghi", "x1", "X"]:
                self.assert_part(word, at, thing)
        for word, at in (("set", 2), ("raise", 2), ("for", 2), ("for", 3), ("if", 1), ("ask", 1)):
            for thing in odd:
                self.assert_part(word, at, thing)
        for word, at in (("if", 2), ("if", 3), ("choose", 1), ("choose", 2), ("for", 4), ("for", 5), ("try", 1), ("try", 3)):
            for thing in odd:
                if not isinstance(thing, tuple):
                    self.assert_part(word, at, thing)
        for thing in odd:
            if thing != ():
                self.assert_part("try", 2, thing)
            if not isinstance(thing, tuple):
                self.assert_part("try", 4, thing)

    def assert_part(self, word, at, thing):
        statement = GOOD[word]
        self.assert_bad((0,), "form", (statement[:at] + (thing,) + statement[at + 1:],))

    def test_values_and_literals(self):
        for value in (
            ["n", 1], ("n",), ("n", 1, 1), ("n", True), ("n", None), ("n", "1"), (1, "n"), (1, 1), (None, 1), ("value", 1),
            ("set", 1), ("N", 1), ("n ", 1), ("abcdefghi", 1), (["n"], 1), ("n", [1]), ("n", 1j), (b"n", 1),
        ):
            for word, at in (("set", 2), ("raise", 2), ("for", 2), ("for", 3)):
                self.assert_part(word, at, value)
        for literal in (
            ["n", "", 1], ("n", ""), ("n", "", 1, 1), ("n", "", False), ("n", "", None), ("value", "", 1), ("", "value", 1),
            ("", "set", 1), ("N", "", 1), ("n", 0, 1), (None, "", 1), ("n", ["n"], 1), ("abcdefghi", "", 1), ("", "", 1j),
        ):
            for word, at in (("if", 1), ("ask", 1)):
                self.assert_part(word, at, literal)

    def test_large_numbers(self):
        big = 10 ** 100 - 1
        program = Program(("n",), (("set", "x", ("n", -big)), ("ask", ("x", "", big), "late")))
        self.assertEqual(program[(0,)], ("set", "x", ("n", -big)))

    def test_names_of_eight_letters(self):
        Program(("abcdefgh",), (("out", "zzzzzzzz"),))
        self.assert_bad((0,), "form", (("out", "zzzzzzzzz"),))

    def test_handlers(self):
        good = (("late",), "e", ())
        Program(("n",), (("try", (), (good, ((), None, ()), (("a", "late"), "e", ())), (), ()),))
        for handlers in (
            [good], (list(good),), (good[:2],), (good + ((),),), (((), None, ()),) * 4, (good, None), ((("late", "late"), "e", ()),),
            ((["late"], "e", ()),), (("late", "e", ()),), ((("value",), "e", ()),), ((("late",), "value", ()),), ((("late",), "", ()),),
            ((("late",), "e", []),), ((("late",), "e", None),), ((("late",), 1, ()),), (((1,), "e", ()),), ((("late",), ["e"], ()),),
            (((["late"],), "e", ()),), ((None, "e", ()),), ((("late",), False, ()),), ({}, ), "abc", {}, None, good,
        ):
            self.assert_part("try", 2, handlers)

    def test_three_handlers(self):
        for many in range(4):
            Program(("n",), (("try", (), (((), None, ()),) * many, (), ()),))

    def test_names_of_kinds_and_outs_are_apart_from_variables(self):
        Program(("n",), (("read", "x"), ("ask", ("x", "n", 0), "x"), ("ask", SAME, "n"), ("out", "n")))
        Program(("n",), (("try", (("raise", "n", ZERO),), ((("n",), "x", ()),), (), ()), ("out", "x")))

    def test_blocks_are_looked_at_later(self):
        self.assert_bad((0, 0, 0), "form", (("if", ("", "", 0), ("no",), ("no",)), None))
        self.assert_bad((0, 1, 1), "form", (("choose", (), (("read", "x"), None)), None))
        self.assert_bad((0,), "term", (("if", ("x", "", 0), ("no",), ()), None))

    def test_nothing_is_changed(self):
        block = [("read", "x")]
        self.assert_bad((), "form", block)
        self.assertEqual(block, [("read", "x")])
        whole = (("try", (("ask", SAME, "late"),), (((), "e", ()),), (), ()), ("for", "i", ZERO, ("n", 0), (), ()))
        before = frozen(whole)
        self.assertEqual(Program(("n",), whole).block, before)


class TestPlaces(ProgramCase):
    block = (
        ("read", "x"),
        ("if", ("x", "n", 0), (("choose", (("set", "a", ZERO),), ()),), (("read", "b"), ("read", "c"))),
        ("for", "i", ZERO, ("n", 0), (("again",),), (("read", "d"),)),
        (
            "try",
            (("ask", ("x", "n", 0), "late"),),
            ((("late",), "e", (("read", "f"),)), ((), None, ())),
            (("read", "g"),),
            (("read", "h"), ("out", "done")),
        ),
    )
    reading_order = [
        (0,), (1,), (1, 0, 0), (1, 0, 0, 0, 0), (1, 1, 0), (1, 1, 1), (2,), (2, 0, 0), (2, 1, 0),
        (3,), (3, 0, 0), (3, 1, 0), (3, 3, 0), (3, 4, 0), (3, 4, 1),
    ]

    def test_reading_order(self):
        program = Program(("n",), self.block)
        self.assertEqual(program.places(), self.reading_order)
        self.assertTrue(all(len(place) % 2 == 1 for place in program.places()))

    def test_statements_at_places(self):
        program = Program(("n",), self.block)
        self.assertIs(program[(1, 0, 0, 0, 0)], self.block[1][2][0][1][0])
        self.assertEqual(program[(1, 1, 1)], ("read", "c"))
        self.assertEqual(program[(2, 0, 0)], ("again",))
        self.assertEqual(program[(2, 1, 0)], ("read", "d"))
        self.assertEqual(program[(3, 0, 0)], ("ask", ("x", "n", 0), "late"))
        self.assertEqual(program[(3, 1, 0)], ("read", "f"))
        self.assertEqual(program[(3, 3, 0)], ("read", "g"))
        self.assertEqual(program[(3, 4, 1)], ("out", "done"))
        self.assertEqual(program[3,], self.block[3])

    def test_all_places_and_no_others(self):
        program = Program(("n",), self.block)
        for place in program.places():
            self.assertIs(place in program, True)
        short = [(a,) for a in range(-1, 6)]
        middle = [(a, b, c) for a in range(-1, 5) for b in range(-1, 6) for c in range(-1, 4)]
        long = [(1, 0, 0, b, c) for b in range(-1, 4) for c in range(-1, 4)]
        for place in short + middle + long:
            self.assertIs(place in program, place in self.reading_order, place)

    def test_what_is_no_place(self):
        program = Program(("n",), self.block)
        wrong = [
            (), (0, 0), (1, 0), (1, 0, 0, 0), (3, 2, 0), (4,), (-1,), (-4,), (3, -1, 0), (3, 4, -1), (0, 0, 0), (2, 2, 0), [0], 0,
            None, "0", (int,), (True,), (False,), (1, False, 0), (1, 0, False), (1j,), (0j,), ("0",), ((0,),), ([0],),
            ({},), {0: 0}, {0}, frozenset([0]), b"\x00", range(1), (10 ** 99,), (1, 10 ** 99, 0), (0,) * 61, program, (None,),
        ]
        odd = [thing for thing in odd_things() if repr(thing) not in ("(0,)", "(1,)")]
        for thing in wrong + odd:
            self.assertIs(thing in program, False)
            with self.assertRaises(NoPlace) as caught:
                program[thing]
            self.assertIs(caught.exception.place, thing)

    def test_places_is_a_new_list(self):
        program = Program(("n",), self.block)
        program.places().clear()
        self.assertEqual(program.places(), self.reading_order)

    def test_it_is_not_gone_through(self):
        with self.assertRaises(TypeError):
            list(Program(("n",), self.block))


class TestEqual(ProgramCase):
    def test_equal_tuples(self):
        block = (("read", "x"), ("out", "done"))
        one = Program(("n", "k"), block)
        self.assertTrue(one == Program(("n", "k"), (("read", "x"), ("out", "done"))))
        self.assertFalse(one != Program(("n", "k"), block))
        self.assertFalse(one == Program(("k", "n"), block))
        self.assertFalse(one == Program(("n",), block))
        self.assertFalse(one == Program(("n", "k"), block[:1]))
        self.assertTrue(one != Program(("n", "k"), (("read", "y"), ("out", "done"))))

    def test_equal_to_nothing_else(self):
        program = Program(("n",), ())
        for thing in odd_things():
            if not isinstance(thing, Program):
                self.assertIs(program == thing, False)
                self.assertIs(thing == program, False)
                self.assertIs(program != thing, True)
        self.assertFalse(program == (("n",), ()))

    def test_deep_blocks(self):
        one, other = (), ()
        for _ in range(30):
            one, other = (("choose", (), one),), (("choose", (), other),)
        self.assertEqual(Program((), one), Program((), other))
        self.assertNotEqual(Program((), one), Program((), one[0][2]))


if __name__ == "__main__":
    unittest.main()
