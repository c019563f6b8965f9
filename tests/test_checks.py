"""What makes a program invalid behind its form: points 3.3 to 3.6, and the sizes of 0.3."""

import random
import unittest

from behindexits.errors import BadProgram
from behindexits.programs import Program
from tests.byform import first_fault, walk

ZERO = ("", 0)
ASK = ("ask", ("n", "", 0), "late")
OUT = ("out", "done")
LEAVE = ("leave",)
AGAIN = ("again",)
RAISE = ("raise", "late", ZERO)


def use(name):
    """A statement that is right only where the name is known."""
    return ("ask", (name, "", 0), "late")


def read(name):
    return ("read", name)


def loop(body, other=(), name="i"):
    return ("for", name, ZERO, ("n", 0), tuple(body), tuple(other))


def choose(yes, no=()):
    return ("choose", tuple(yes), tuple(no))


def attempt(block, handlers=(), other=(), always=()):
    return ("try", tuple(block), tuple(handlers), tuple(other), tuple(always))


class CheckCase(unittest.TestCase):
    def assert_good(self, *block):
        self.assertEqual(Program(("n",), block).block, block)
        self.assertIsNone(first_fault(("n",), block))

    def assert_bad(self, place, why, *block):
        with self.assertRaises(BadProgram) as caught:
            Program(("n",), block)
        self.assertEqual((caught.exception.place, caught.exception.why), (place, why))

    def assert_known(self, *block):
        """The name x is known behind the block."""
        self.assert_good(*block, use("x"))

    def assert_unknown(self, *block):
        """The name x is not known behind the block, but the block has the end."""
        self.assert_good(*block)
        self.assert_bad((len(block),), "term", *block, use("x"))

    def assert_closed(self, *block):
        """The block does not have the end."""
        self.assert_good(*block)
        self.assert_bad((len(block),), "dead", *block, read("zz"))


class TestDead(CheckCase):
    def test_behind_each_statement(self):
        for statement in (read("x"), ("set", "x", ZERO), ASK, choose([]), loop([]), attempt([])):
            self.assert_good(statement, read("zz"))
        for statement in (OUT, RAISE):
            self.assert_closed(statement)
        for statement in (LEAVE, AGAIN):
            self.assert_bad((0, 0, 1), "dead", loop([statement, read("x")]))
            self.assert_good(loop([statement]), read("x"))

    def test_only_the_first_one_is_named(self):
        self.assert_bad((1,), "dead", OUT, OUT, RAISE)
        self.assert_bad((0, 0, 1), "dead", choose([OUT, read("x")], [OUT, read("y")]), read("z"))

    def test_if_and_choose(self):
        self.assert_good(choose([OUT]), read("x"))
        self.assert_good(choose([], [OUT]), read("x"))
        self.assert_closed(choose([OUT], [RAISE]))
        self.assert_closed(("if", ("n", "", 0), (OUT,), (RAISE,)))
        self.assert_closed(choose([choose([OUT], [OUT])], [RAISE]))

    def test_loops(self):
        self.assert_good(loop([OUT]), read("x"))
        self.assert_closed(loop([], [OUT]))
        self.assert_closed(loop([AGAIN], [OUT]))
        self.assert_good(loop([LEAVE], [OUT]), read("x"))
        self.assert_good(loop([choose([LEAVE])], [RAISE]), read("x"))
        self.assert_closed(loop([loop([LEAVE], (), "j")], [OUT]))

    def test_errors_of_loops(self):
        """What a turn raises goes out of the loop, and so does what its other part raises."""
        handlers = [(("late",), None, ())]
        self.assert_good(attempt([loop([RAISE], [OUT])], handlers), read("x"))
        self.assert_good(attempt([loop([ASK], [OUT])], handlers), read("x"))
        self.assert_good(attempt([loop([], [RAISE])], handlers), read("x"))
        self.assert_good(attempt([loop([loop([RAISE], (), "j")], [OUT])], handlers), read("x"))
        self.assert_closed(attempt([loop([("raise", "big", ZERO)], [OUT])], handlers))
        self.assert_closed(attempt([loop([attempt([RAISE], [((), None, ())])], [OUT])], handlers))
        self.assert_closed(attempt([loop([RAISE], [OUT])], [(("late",), None, (OUT,))]))

    def test_leave_in_the_other_part_means_the_loop_around(self):
        self.assert_good(loop([loop([], [LEAVE], "j")], [OUT]), read("x"))
        self.assert_good(loop([loop([], [AGAIN], "j")]), read("x"))
        self.assert_bad((0, 0, 1), "dead", loop([loop([], [LEAVE], "j"), read("x")]))
        self.assert_bad((0, 0, 1), "dead", loop([loop([], [AGAIN], "j"), read("x")]))
        self.assert_good(loop([loop([LEAVE], [AGAIN], "j"), read("x")]))

    def test_try_without_handlers(self):
        self.assert_closed(attempt([OUT]))
        self.assert_closed(attempt([RAISE]))
        self.assert_good(attempt([ASK]), read("x"))
        self.assert_closed(attempt([ASK], (), [OUT]))
        self.assert_closed(attempt([], (), [OUT]))
        self.assert_closed(attempt([], (), (), [OUT]))

    def test_other_of_a_block_without_the_end(self):
        self.assert_bad((0, 1, 0), "dead", attempt([OUT], (), [read("x")]))
        self.assert_bad((0, 2, 0), "dead", attempt([RAISE], [((), None, ())], [read("x"), read("y")]))
        self.assert_good(attempt([RAISE], [((), None, ())], []))

    def test_handlers(self):
        self.assert_good(attempt([RAISE], [((), None, ())]), read("x"))
        self.assert_good(attempt([RAISE], [(("late",), None, ())]), read("x"))
        self.assert_closed(attempt([RAISE], [(("early",), None, ())]))
        self.assert_closed(attempt([RAISE], [((), None, (OUT,))]))
        self.assert_closed(attempt([RAISE], [(("late",), None, (OUT,)), ((), None, ())]))
        self.assert_good(attempt([ASK, OUT], [(("early",), None, (OUT,)), ((), None, ())]), read("x"))
        self.assert_good(attempt([choose([RAISE], [("raise", "big", ZERO)])], [(("late",), None, (OUT,)), ((), None, ())]), read("x"))

    def test_handlers_that_are_never_begun(self):
        self.assert_closed(attempt([OUT], [((), None, ())]))
        self.assert_closed(attempt([RAISE], [((), None, (OUT,)), ((), None, ())]))
        self.assert_closed(attempt([RAISE], [((), None, (OUT,)), (("late",), None, ())]))
        self.assert_bad((0, 1, 1), "dead", attempt([], [((), None, (OUT, OUT))]))
        self.assert_bad((0, 1, 0), "term", attempt([], [((), None, (use("x"),))]))

    def test_errors_of_other_and_handlers_are_not_caught_there(self):
        self.assert_closed(attempt([], [((), None, ())], [RAISE]))
        self.assert_closed(attempt([RAISE], [(("late",), None, (RAISE,)), ((), None, ())]))
        self.assert_good(attempt([attempt([], [((), None, ())], [RAISE])], [((), None, ())]), read("x"))
        self.assert_good(attempt([attempt([RAISE], [((), None, (RAISE,))])], [((), None, ())]), read("x"))

    def test_always_takes_ways_away(self):
        self.assert_closed(attempt([ASK], [((), None, ())], (), [OUT]))
        self.assert_closed(loop([], [attempt([read("x")], (), (), [RAISE])]))
        self.assert_good(loop([attempt([OUT], (), (), [LEAVE])]), read("x"))
        self.assert_closed(loop([attempt([LEAVE], (), (), [AGAIN])], [OUT]))
        self.assert_good(loop([attempt([AGAIN], (), (), [LEAVE])], [OUT]), read("x"))
        self.assert_closed(attempt([attempt([RAISE], (), (), [OUT])], [((), None, ())]))
        self.assert_good(attempt([attempt([OUT], (), (), [RAISE])], [((), None, ())]), read("x"))
        self.assert_good(attempt([attempt([RAISE], (), (), [choose([OUT])])], [((), None, ())]), read("x"))

    def test_always_without_the_end_hides_the_error_from_handlers(self):
        inner = attempt([("raise", "big", ZERO)], (), (), [RAISE])
        self.assert_closed(attempt([inner], [(("big",), None, ())]))
        self.assert_good(attempt([inner], [(("late",), None, ())]), read("x"))


class TestKnown(CheckCase):
    def test_at_the_begin(self):
        self.assert_good(use("n"))
        self.assert_bad((0,), "term", use("x"))
        self.assertEqual(len(Program(("n", "k"), (use("k"), use("n"))).block), 2)

    def test_set_and_read(self):
        self.assert_known(read("x"))
        self.assert_known(("set", "x", ("n", 1)))
        self.assert_bad((0,), "term", ("set", "x", ("x", 1)))

    def test_places_of_terms(self):
        for statement in (
            ("set", "y", ("x", 0)), ("if", ("x", "n", 0), (), ()), ("if", ("n", "x", 0), (), ()), ("ask", ("x", "", 0), "late"),
            ("ask", ("", "x", 0), "late"), ("raise", "late", ("x", 0)), ("for", "i", ("x", 0), ZERO, (), ()),
            ("for", "i", ZERO, ("x", 0), (), ()), ("for", "i", ("i", 0), ZERO, (), ()),
        ):
            self.assert_bad((0,), "term", statement)
            self.assert_bad((1,), "term", read("y" if "y" not in statement else "z"), statement)
        self.assert_good(("if", ("", "", 0), (), ()), ("set", "x", ZERO), ("raise", "late", ZERO))

    def test_if_and_choose(self):
        self.assert_known(choose([read("x")], [("set", "x", ZERO)]))
        self.assert_unknown(choose([read("x")]))
        self.assert_unknown(choose([], [read("x")]))
        self.assert_known(choose([read("x")], [OUT]))
        self.assert_known(("if", ("n", "", 0), (RAISE,), (read("x"),)))
        self.assert_known(read("x"), choose([use("x")], [use("x")]))
        self.assert_bad((0, 1, 0), "term", choose([read("x")], [use("x")]))

    def test_bodies_and_others(self):
        self.assert_good(loop([use("i")]))
        self.assert_bad((0, 1, 0), "term", loop([], [use("i")]))
        self.assert_bad((0, 1, 0), "term", loop([read("x")], [use("x")]))
        self.assert_good(read("x"), loop([use("x")], [use("x")]))
        self.assert_unknown(loop([read("x")]))
        self.assert_unknown(loop([], (), "x"))
        self.assert_bad((0, 0, 0), "term", loop([use("x"), read("x")]))

    def test_behind_loops(self):
        self.assert_known(loop([], [read("x")]))
        self.assert_unknown(loop([choose([LEAVE])], [read("x")]))
        self.assert_known(loop([read("x"), LEAVE], [OUT]))
        self.assert_known(loop([choose([read("x"), LEAVE])], [read("x")]))
        self.assert_unknown(loop([choose([LEAVE]), choose([read("x"), LEAVE])], [read("x")]))
        self.assert_known(loop([LEAVE], [OUT], "x"))
        self.assert_known(loop([choose([LEAVE])], [("set", "x", ("", -1))], "x"))
        self.assert_unknown(loop([choose([LEAVE])], [], "x"))
        self.assert_unknown(loop([read("x"), OUT], []))

    def test_leaves_of_inner_loops(self):
        self.assert_known(loop([loop([LEAVE], [], "j"), read("x"), LEAVE], [OUT]))
        self.assert_unknown(loop([choose([loop([], [LEAVE], "j")]), read("x"), LEAVE], [OUT]))

    def test_handlers(self):
        self.assert_good(attempt([ASK], [((), "x", (use("x"),))]))
        self.assert_bad((0, 1, 0), "term", attempt([read("x"), ASK], [((), None, (use("x"),))]))
        self.assert_unknown(attempt([read("x"), ASK], [((), None, ())]))
        self.assert_known(attempt([read("x"), ASK], [((), None, (OUT,))]))
        self.assert_known(attempt([ASK, OUT], [((), "x", ())]))
        self.assert_known(attempt([ASK], [((), "x", ())], [read("x")]))
        self.assert_unknown(attempt([ASK], [((), "x", ())]))
        self.assert_known(attempt([read("x")], [((), None, ())]))

    def test_handlers_that_are_never_begun_do_not_count(self):
        self.assert_known(attempt([read("x"), ASK], [(("late",), None, (OUT,)), ((), None, ())]))
        self.assert_known(attempt([read("x"), ASK], [(("early",), None, ()), ((), None, (OUT,))]))
        self.assert_known(loop([attempt([ASK], [(("early",), None, (LEAVE,))]), read("x"), LEAVE], [OUT]))
        self.assert_unknown(loop([attempt([ASK], [(("late",), None, (LEAVE,))]), read("x"), LEAVE], [OUT]))

    def test_others_of_tries(self):
        self.assert_good(attempt([read("x")], (), [use("x")]))
        self.assert_bad((0, 2, 0), "term", attempt([ASK], [((), "x", ())], [use("x")]))
        self.assert_known(attempt([], (), [read("x")]))

    def test_always(self):
        self.assert_bad((0, 1 + 1, 0), "term", attempt([read("x")], (), (), [use("x")]))
        self.assert_unknown(attempt([], (), (), [read("x")]))
        self.assert_good(attempt([], (), (), [read("x"), use("x")]))
        self.assert_known(attempt([read("x")], (), (), [read("y")]))
        self.assert_known(read("x"), attempt([], (), (), [use("x")]))

    def test_leaves_that_always_takes_away(self):
        self.assert_known(loop([choose([attempt([LEAVE], (), (), [OUT])]), read("x"), LEAVE], [OUT]))
        self.assert_unknown(loop([choose([attempt([LEAVE], (), (), [])]), read("x"), LEAVE], [OUT]))
        self.assert_known(loop([attempt([LEAVE], (), (), [read("x"), LEAVE])], [OUT]))
        self.assert_known(loop([attempt([read("x"), LEAVE], (), (), [read("y")])], [OUT]))


class TestNames(CheckCase):
    def assert_apart(self, *block):
        self.assert_good(*block)

    def assert_again(self, place, *block):
        self.assert_bad(place, "name", *block)

    def test_inputs(self):
        self.assert_again((0,), read("n"))
        self.assert_again((0,), ("set", "n", ("n", 0)))
        self.assert_again((0,), loop([], (), "n"))
        self.assert_again((0,), attempt([], [((), "n", ())]))
        self.assert_again((0,), attempt([], [((), None, ()), ((), "n", ())]))

    def test_one_after_the_other(self):
        self.assert_again((1,), read("x"), ("set", "x", ("x", 1)))
        self.assert_again((1,), loop([]), loop([]))
        self.assert_again((1,), choose([read("x")]), read("x"))
        self.assert_again((1,), loop([read("x")]), read("x"))
        self.assert_again((1,), attempt([ASK], [((), "x", ())]), read("x"))
        self.assert_again((1, 0, 0), read("x"), choose([read("x")]))
        self.assert_apart(loop([]), loop([], (), "j"))

    def test_parts_of_if_and_choose(self):
        self.assert_apart(choose([read("x")], [read("x")]))
        self.assert_apart(("if", ("n", "", 0), (loop([], (), "x"),), (attempt([ASK], [((), "x", ())]),)))
        self.assert_apart(choose([choose([read("x")], [read("x")])], [choose([], [read("x")])]))
        self.assert_again((0, 0, 1), choose([read("x"), read("x")], [read("x")]))
        self.assert_again((0, 1, 1), choose([read("x")], [read("x"), read("x")]))

    def test_loops(self):
        self.assert_again((0, 0, 0), loop([read("i")]))
        self.assert_again((0, 0, 0), loop([loop([])]))
        self.assert_apart(loop([], [read("i")]))
        self.assert_apart(loop([], [loop([])]))
        self.assert_apart(loop([read("x")], [read("x")]))
        self.assert_apart(loop([choose([read("x")])], [attempt([ASK], [((), "x", ())])]))
        self.assert_again((0, 1, 1), loop([], [read("i"), read("i")]))
        self.assert_again((0, 0, 0, 1, 0), loop([loop([], [read("i")], "j")]))

    def test_handlers(self):
        self.assert_apart(attempt([ASK], [(("late",), "x", ()), ((), "x", ())]))
        self.assert_apart(attempt([ASK], [(("late",), "x", ()), ((), None, (read("x"),))]))
        self.assert_apart(attempt([ASK], [(("late",), None, (read("x"),)), ((), "x", ())]))
        self.assert_apart(attempt([ASK], [(("late",), None, (read("x"),)), ((), None, (read("x"),))]))
        self.assert_apart(attempt([ASK], [((), "x", ())], [read("x")]))
        self.assert_apart(attempt([ASK], [((), None, (read("x"),))], [read("x")]))
        self.assert_again((0, 1, 0), attempt([ASK], [((), "x", (read("x"),))]))
        self.assert_again((0, 0, 0), attempt([read("x")], [((), "x", ())]))
        self.assert_again((0, 1, 0), attempt([read("x"), ASK], [((), None, (read("x"),))]))
        self.assert_again((0, 1, 0), attempt([read("x")], (), [read("x")]))

    def test_always(self):
        self.assert_again((0, 3, 0), attempt([ASK], [((), "x", ())], (), [read("x")]))
        self.assert_again((0, 2, 0), attempt([read("x")], (), (), [read("x")]))
        self.assert_again((0, 2, 0), attempt([], (), [read("x")], [read("x")]))
        self.assert_again((0, 3, 0), attempt([ASK], [((), None, (read("x"),))], (), [read("x")]))

    def test_two_tries(self):
        self.assert_again((1,), attempt([ASK], [((), "x", ())]), attempt([ASK], [((), "x", ())]))
        self.assert_again((0, 1, 0), attempt([ASK], [((), "x", (attempt([ASK], [((), "x", ())]),))]))
        self.assert_again((0, 0, 0), attempt([attempt([ASK], [((), "x", ())]), ASK], [((), "x", ())]))
        self.assert_apart(attempt([ASK], [(("late",), "x", ()), ((), None, (attempt([ASK], [((), "x", ())]),))]))

    def test_handlers_that_are_never_begun_set_names_too(self):
        self.assert_again((1,), attempt([], [((), "x", ())]), read("x"))


class TestLoops(CheckCase):
    def test_outside_of_loops(self):
        for statement in (LEAVE, AGAIN):
            self.assert_bad((0,), "loop", statement)
            self.assert_bad((0, 0, 0), "loop", choose([statement]))
            self.assert_bad((0, 1, 0), "loop", loop([], [statement]))
            self.assert_bad((1,), "loop", loop([]), statement)
            self.assert_bad((0, 1, 0), "loop", loop([statement], [statement]))

    def test_in_bodies(self):
        for statement in (LEAVE, AGAIN):
            self.assert_good(loop([statement]))
            self.assert_good(loop([choose([statement], [choose([], [statement])])]))
            self.assert_good(loop([loop([], [statement], "j")]))
            self.assert_good(loop([attempt([ASK], [((), None, (statement,))], [statement], [choose([statement])])]))
            self.assert_bad((0, 0, 0, 1, 0, 1, 0), "form", loop([loop([], [choose([], [None])], "j")]))


class TestOrder(CheckCase):
    def test_of_statements(self):
        """The first wrong statement in reading order, whatever the words."""
        self.assert_bad((0, 0, 0), "loop", choose([LEAVE], [None]), None)
        self.assert_bad((0,), "term", ("if", ("x", "", 0), (None,), ()), None)
        self.assert_bad((0, 1, 0), "term", loop([read("x")], [use("x")]), LEAVE)
        self.assert_bad((1,), "dead", OUT, ("choose", (None,), ()))
        self.assert_bad((0, 0, 0), "form", attempt([None], [((), "x", (LEAVE,))]))
        self.assert_bad((0, 1, 0), "loop", attempt([], [((), None, (LEAVE,)), ((), None, (None,))], [None]))
        self.assert_bad((0, 2, 0), "form", attempt([], [((), None, ()), ((), None, (None,))], [LEAVE], [None]))
        self.assert_bad((0, 3, 0), "loop", attempt([], [((), None, ()), ((), None, ())], [LEAVE], [None]))
        self.assert_bad((0, 4, 0), "form", attempt([], [((), None, ()), ((), None, ())], [], [None]))

    def test_of_words_at_one_statement(self):
        self.assert_bad((1,), "form", OUT, ("set", "n", ("x", True)))
        self.assert_bad((1,), "form", OUT, ("leave", 1))
        self.assert_bad((1,), "dead", OUT, ("set", "n", ("x", 0)))
        self.assert_bad((1,), "dead", OUT, LEAVE)
        self.assert_bad((1,), "dead", OUT, use("x"))
        self.assert_bad((0,), "name", ("set", "n", ("x", 0)))
        self.assert_bad((1,), "name", read("i"), ("for", "i", ("x", 0), ZERO, (LEAVE,), ()))
        self.assert_bad((0,), "term", ("for", "i", ("x", 0), ZERO, (None,), ()))
        self.assert_bad((0,), "name", ("try", (None,), (((), "n", (None,)),), (), ()))

    def test_against_all_paths_by_form(self):
        choice = random.Random(51)
        seen = {}
        for _ in range(20000):
            inputs = tuple(choice.sample(("n", "k", "a"), choice.choice((1, 2))))
            terms = inputs + tuple(choice.sample("abxyij", choice.choice((0, 0, 1, 2))))
            block = random_block(choice, 3, False, terms)
            wanted = first_fault(inputs, block)
            found = None
            try:
                self.assertEqual(Program(inputs, block).places(), [place for place, _ in walk(block)])
            except BadProgram as error:
                found = (error.place, error.why)
            self.assertEqual(found, wanted, (inputs, block))
            why = wanted and wanted[1]
            seen[why] = seen.get(why, 0) + 1
        self.assertEqual(set(seen), {None, "dead", "name", "term", "loop"})
        self.assertGreater(min(seen.values()), 20)


def random_block(choice, depth, looped, terms):
    many = choice.choice((0, 1, 1, 1, 2, 2, 3))
    return tuple(random_statement(choice, depth, looped, terms) for _ in range(many))


def random_statement(choice, depth, looped, terms):
    def literal():
        return (choice.choice(("",) + terms), choice.choice(("",) + terms), choice.randint(-2, 2))

    def value():
        return (choice.choice(("",) + terms), choice.randint(-2, 2))

    def block(inner=looped):
        return random_block(choice, depth - 1, inner, terms)

    def handler():
        kinds = choice.choice(((), ("late",), ("big",), ("late", "big")))
        return (kinds, choice.choice((None, choice.choice("abxyij"))), block())

    words = ["set", "set", "read", "read", "ask"] + ["leave", "again"] * looped + ["raise", "out"] * choice.randint(0, 1)
    if choice.random() < 0.01:
        words = ["leave"]
    if depth > 0:
        words = words + ["if", "choose", "for", "for", "try", "try", "try"]
    word = choice.choice(words)
    name, kind = choice.choice("abxyij"), choice.choice(("late", "big"))
    if word == "for":
        return (word, name, value(), value(), block(True), block())
    if word == "try":
        return (word, block(), tuple(handler() for _ in range(choice.choice((0, 1, 1, 2, 2, 3)))), block(), block())
    return {
        "set": lambda: (word, name, value()),
        "read": lambda: (word, name),
        "if": lambda: (word, literal(), block(), block()),
        "choose": lambda: (word, block(), block()),
        "ask": lambda: (word, literal(), kind),
        "raise": lambda: (word, kind, value()),
        "out": lambda: (word, kind),
        "leave": lambda: (word,),
        "again": lambda: (word,),
    }[word]()


class TestSizes(CheckCase):
    def test_thirty_statements_nested(self):
        """Nothing but choose may be nested thirty times."""
        for side in (1, 2):
            block = (read("x"),)
            for _ in range(29):
                block = (choose(block),) if side == 1 else (choose((), block),)
            program = Program(("n",), block)
            self.assertEqual(len(program.places()), 30)
            last = program.places()[-1]
            self.assertEqual(last, (0, side - 1) * 29 + (0,))
            self.assertEqual(program[last], read("x"))
            self.assertNotIn(last + (0, 0), program)

    def test_a_fault_far_within(self):
        block = (LEAVE,)
        for _ in range(29):
            block = (choose((), block),)
        self.assert_bad((0, 1) * 29 + (0,), "loop", *block)

    def test_thirty_statements_in_a_row(self):
        self.assert_good(*[read("x" + letter) for letter in "abcdefghij"], *[ASK] * 20)

    def test_all_kinds_nested(self):
        block = (use("a"), use("i"), use("j"), use("k"), use("e"))
        for name in ("k", "j", "i"):
            block = (("for", name, ZERO, ("n", 0), block, (read(name),)),)
        for _ in range(3):
            block = (("if", ("n", "a", 0), block, ()),)
        block = (attempt([ASK], [((), "e", block)]),)
        for _ in range(3):
            block = (attempt(block, [(("late",), None, (OUT,))], [], [choose([])]),)
        self.assert_good(read("a"), *block)

    def test_deep_objects_in_the_place_of_statements(self):
        thing = ()
        for _ in range(58):
            thing = (thing,)
        self.assert_bad((0,), "form", thing)
        self.assert_bad((0, 0, 0), "form", choose([thing]))
        self.assert_bad((0,), "form", ("set", "x", thing))


if __name__ == "__main__":
    unittest.main()
