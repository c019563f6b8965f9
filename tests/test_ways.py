"""Ways by form and the names known at them: points 5.1 and 5.2."""

import random
import unittest

from behindexits.errors import BadProgram, NoPlace, NoWay
from behindexits.programs import Program
from behindexits.ways import known, known_at, ways
from tests.byform import END, known_before, paths_of_block
from tests.makes import EVEN, TRIES, random_program
from tests.things import odd_things

ZERO = ("", 0)
ASK = ("ask", ("n", "", 0), "late")
LEAVES = (
    ("read", "a"), ("read", "b"), ASK, ("raise", "late", ZERO), ("raise", "big", ZERO), ("out", "done"), ("leave",), ("again",),
)
HANDLERS = ((), ("late",), None), ((), ("late",), "a"), ((), (), None)


def all_blocks(size, looped):
    """All blocks of so many statements; some are not valid."""
    if size == 0:
        yield ()
    for first in range(1, size + 1):
        for statement in all_statements(first, looped):
            for rest in all_blocks(size - first, looped):
                yield (statement,) + rest


def all_statements(size, looped):
    if size == 1:
        for statement in LEAVES:
            if looped or statement[0] not in ("leave", "again"):
                yield statement
    for first in range(size):
        for one in all_blocks(first, looped):
            for two in all_blocks(size - 1 - first, looped):
                yield ("choose", one, two)
                yield ("try", one, (), (), two)
                yield ("try", one, (), two, ())
                for _, kinds, name in HANDLERS:
                    yield ("try", one, ((kinds, name, two),), (), ())
        for one in all_blocks(first, True):
            for two in all_blocks(size - 1 - first, looped):
                yield ("for", "i", ZERO, ("n", 0), one, two)


def program_of(block):
    try:
        return Program(("n",), block)
    except BadProgram:
        return None


class WaysCase(unittest.TestCase):
    def assert_ways(self, program):
        """The ways and names are those of all paths by form."""
        paths = paths_of_block(program.block, frozenset(program.inputs))
        found = {way for way, _ in paths}
        self.assertEqual(ways(program), sorted(found), program.block)
        for way in found:
            names = frozenset.intersection(*[there for past, there in paths if past == way])
            if way[0] == "raise":
                names = program.inputs + ("value",)
            self.assertEqual(known(program, way), sorted(names), (program.block, way))

    def assert_places(self, program):
        for place in program.places():
            self.assertEqual(known_at(program, place), sorted(known_before(program.block, program.inputs, place)), place)

    def assert_raises(self, error, name, call, program, thing):
        with self.assertRaises(error) as caught:
            call(program, thing)
        self.assertIs(type(caught.exception), error)
        self.assertIs(getattr(caught.exception, name), thing)


class TestSmallPrograms(WaysCase):
    def test_all_of_up_to_three_statements(self):
        valid = 0
        for size in range(4):
            for block in all_blocks(size, False):
                program = program_of(block)
                if program is not None:
                    valid += 1
                    self.assert_ways(program)
        self.assertGreater(valid, 5000)

    def test_places_of_all_of_up_to_two_statements(self):
        for size in range(3):
            for block in all_blocks(size, False):
                program = program_of(block)
                if program is not None:
                    self.assert_places(program)

    def test_larger_ones(self):
        choice = random.Random(81)
        for _ in range(1500):
            program = random_program(choice, ("n", "k"), choice.randint(4, 25), 2, choice.choice((EVEN, TRIES)))
            self.assert_ways(program)
            if len(program.places()) < 12:
                self.assert_places(program)


class TestByHand(WaysCase):
    def test_order(self):
        block = tuple(
            ("choose", (way,), ()) for way in (
                ("raise", "b", ZERO), ("out", "zz"), ("raise", "ab", ZERO), ("out", "abc"), ("out", "ab"), ("out", "b"),
                ("raise", "a", ZERO), ("out", "zz"), ("out", "a"),
            )
        )
        self.assertEqual(ways(Program((), block)), [
            ("end",), ("out", "a"), ("out", "ab"), ("out", "abc"), ("out", "b"), ("out", "zz"), ("raise", "a"), ("raise", "ab"),
            ("raise", "b"),
        ])

    def test_the_empty_program(self):
        self.assertEqual(ways(Program((), ())), [END])
        self.assertEqual(known(Program((), ()), END), [])
        self.assertEqual(known(Program(("n", "k"), ()), END), ["k", "n"])

    def test_by_form_alone(self):
        never = ("if", ("", "", -1), (("out", "never"),), ())
        self.assertEqual(ways(Program((), (never,))), [END, ("out", "never")])
        self.assertEqual(ways(Program((), (("for", "i", ZERO, ZERO, (("raise", "late", ZERO),), ()),))), [END, ("raise", "late")])

    def test_without_the_end(self):
        self.assertEqual(ways(Program((), (("out", "done"),))), [("out", "done")])
        self.assertEqual(ways(Program((), (("raise", "late", ZERO),))), [("raise", "late")])
        self.assertEqual(ways(Program((), (("try", (ASK[:1] + (("", "", 0), "late"),), (), (), (("out", "done"),)),))),
                         [("out", "done")])

    def test_outs_of_several_statements(self):
        block = (("choose", (("read", "a"), ("read", "b"), ("out", "done")), (("read", "b"), ("read", "c"), ("out", "done"))),)
        self.assertEqual(known(Program(("n",), block), ("out", "done")), ["b", "n"])

    def test_outs_that_do_not_count(self):
        out = ("out", "done")
        never = ("try", (ASK,), ((("big",), None, (out,)),), (), ())
        self.assertEqual(known(Program(("n",), (never, ("read", "a"), out)), ("out", "done")), ["a", "n"])
        taken = ("try", (("choose", (out,), ()),), (), (), (("read", "a"), out))
        self.assertEqual(known(Program(("n",), (taken,)), ("out", "done")), ["a", "n"])
        left = ("try", (("choose", (out,), ()),), (), (), (("read", "b"),))
        self.assertEqual(known(Program(("n",), (left, ("read", "a"), out)), ("out", "done")), ["n"])

    def test_a_raise_has_the_inputs_and_the_value(self):
        program = Program(("x", "k"), (("read", "a"), ("raise", "late", ("a", 0))))
        self.assertEqual(known(program, ("raise", "late")), ["k", "value", "x"])

    def test_the_search_loop(self):
        search = Program(("n",), (
            ("for", "i", ZERO, ("n", 0), (("choose", (("leave",),), ()),), (("set", "i", ("", -1)),)),
        ))
        self.assertEqual(known(search, END), ["i", "n"])
        self.assertEqual(known_at(search, (0,)), ["n"])
        self.assertEqual(known_at(search, (0, 0, 0)), ["i", "n"])
        self.assertEqual(known_at(search, (0, 0, 0, 0, 0)), ["i", "n"])
        self.assertEqual(known_at(search, (0, 1, 0)), ["n"])

    def test_places_in_handlers_that_are_never_begun(self):
        program = Program(("n",), (("try", (("read", "a"),), (((), "e", (ASK,)),), (ASK,), (ASK,)),))
        self.assertEqual(known_at(program, (0, 1, 0)), ["e", "n"])
        self.assertEqual(known_at(program, (0, 2, 0)), ["a", "n"])
        self.assertEqual(known_at(program, (0, 3, 0)), ["n"])

    def test_lists_are_new(self):
        program = Program(("n",), (ASK,))
        ways(program).clear()
        known(program, END).clear()
        known_at(program, (0,)).append("x")
        self.assertEqual((ways(program), known(program, END), known_at(program, (0,))), ([END, ("raise", "late")], ["n"], ["n"]))


class TestErrors(WaysCase):
    def setUp(self):
        self.program = Program(("n",), (ASK, ("choose", (("out", "done"),), ())))

    def test_no_way(self):
        wrong = [
            ("out", "late"), ("raise", "done"), ("end", "end"), ("leave",), ("again",), ["end"], "end", ("out",), ("raise",),
            ("out", "done", 1), ("raise", "late", 0), ("out", ("done",)), (("end",),), ("END",), (b"end",),
        ]
        for thing in wrong + odd_things():
            self.assert_raises(NoWay, "way", known, self.program, thing)
            self.assert_raises(NoWay, "way", known, self.program, ("out", thing))
        self.assert_raises(NoWay, "way", known, Program((), (("out", "done"),)), END)

    def test_no_place(self):
        for thing in odd_things() + [(2,), (-1,), (0, 0, 0), (1, 0, 1), (1, 2, 0), (1, 0), [0], (True,), (1, False, 0)]:
            if thing not in ((0,), (1,)) or isinstance(thing[0], bool):
                self.assert_raises(NoPlace, "place", known_at, self.program, thing)


if __name__ == "__main__":
    unittest.main()
