"""What is kept of a program once it was found: the answers stay as they are, and belong to the caller."""

import random
import unittest

from behindexits.behind import behind, can_end, coming
from behindexits.errors import BehindError
from behindexits.facts import holds, is_whole, passes, tightest
from behindexits.programs import Program
from behindexits.runs import Running, run, tried
from behindexits.ways import known, known_at, ways
from tests.makes import random_program
from tests.things import frozen


def asked(question):
    """The answer to a question, or the error that it raises."""
    try:
        return question()
    except BehindError as error:
        return (type(error), vars(error))


def questions(program):
    """Functions without arguments that ask all there is to ask about a program."""
    found = [lambda: ways(program), lambda: program.places()]
    inputs = {name: 1 for name in program.inputs}
    found += [lambda: run(program, inputs, (1, 0, 2)), lambda: tried(Running(program, inputs), (1,))]
    found += [lambda: Running(program, inputs).result]
    for way in ways(program) + [("out", "nowhere")]:
        found += [lambda way=way: known(program, way), lambda way=way: behind(program, way)]
        found += [lambda way=way: can_end(program, way), lambda way=way: tightest(program, way)]
        found += [lambda way=way: is_whole(program, way), lambda way=way: holds(program, way, ("", "n", 2))]
    for place in program.places() + [(99,)]:
        found += [lambda place=place: known_at(program, place), lambda place=place: coming(program, place)]
        values = {name: 1 for name in known_at(program, place)} if place in program else {}
        found += [lambda place=place, values=values: passes(program, place, values)]
    return found


def spoil(thing):
    """Change a list or dict that was returned, also within a tuple."""
    if isinstance(thing, list):
        thing.append("spoilt")
        thing[0] = None
    elif isinstance(thing, dict):
        for key in list(thing):
            thing[key] = "spoilt"
        thing["more"] = 1
    elif isinstance(thing, tuple):
        for part in thing:
            spoil(part)


def changed(program, by):
    """The same program, but for one number in its first statement that has one, or None."""
    block = list(program.block)
    for index, statement in enumerate(block):
        if statement[0] in ("set", "raise"):
            term, number = statement[2]
            block[index] = statement[:2] + ((term, number + by),)
            return Program(program.inputs, tuple(block))
        if statement[0] in ("if", "ask"):
            left, right, number = statement[1]
            block[index] = (statement[0], (left, right, number + by)) + statement[2:]
            return Program(program.inputs, tuple(block))
    return None


class TestKept(unittest.TestCase):
    def programs(self, seed, many):
        choice = random.Random(seed)
        return [random_program(choice, size=6) for _ in range(many)]

    def test_the_same_answers_again(self):
        for program in self.programs(11, 40):
            first = [asked(question) for question in questions(program)]
            copies = [frozen(answer) for answer in first]
            for answer in first:
                spoil(answer)
            for _ in range(2):
                again = [asked(question) for question in questions(program)]
                self.assertEqual(again, copies)
                for answer in again:
                    spoil(answer)

    def test_the_same_as_of_a_new_program(self):
        for program in self.programs(12, 40):
            first = [asked(question) for question in questions(program)]
            # The last question is then the first one that is asked.
            fresh = Program(program.inputs, program.block)
            turned = [asked(question) for question in reversed(questions(fresh))]
            self.assertEqual(turned[::-1], first)
            self.assertEqual(program, fresh)

    def test_equal_programs_and_others(self):
        for program in self.programs(13, 60):
            other = changed(program, 1)
            if other is not None:
                alone = [asked(question) for question in questions(changed(program, 1))]
                first = [asked(question) for question in questions(program)]
                self.assertEqual([asked(question) for question in questions(other)], alone)
                self.assertEqual([asked(question) for question in questions(program)], first)
                self.assertNotEqual(program, other)

    def test_one_number(self):
        one = Program(("n",), (("set", "x", ("n", 1)),))
        two = Program(("n",), (("set", "x", ("n", 2)),))
        for _ in range(3):
            self.assertTrue(holds(one, ("end",), ("x", "n", 1)))
            self.assertFalse(holds(two, ("end",), ("x", "n", 1)))
            self.assertEqual(run(one, {"n": 3}, ())[1]["x"], 4)
            self.assertEqual(run(two, {"n": 3}, ())[1]["x"], 5)
            self.assertNotEqual(behind(one, ("end",)), behind(two, ("end",)))

    def test_inputs_in_another_order(self):
        block = (("set", "x", ("n", 1)),)
        one, two = Program(("n", "k"), block), Program(("k", "n"), block)
        for _ in range(2):
            self.assertEqual(run(one, {"n": 3, "k": 5}, ()), run(two, {"k": 5, "n": 3}, ()))
            self.assertEqual(behind(one, ("end",)), behind(two, ("end",)))

    def test_a_set_that_was_returned_is_left(self):
        program = Program(("n",), (("read", "x"), ("ask", ("x", "n", 0), "late")))
        first = behind(program, ("end",))
        rows = first.rows
        self.assertEqual(first.without("x").names, ("n",))
        self.assertEqual((first - first).is_empty(), True)
        self.assertEqual(behind(program, ("end",)).rows, rows)
        self.assertEqual(behind(program, ("end",)), first)

    def test_a_running_does_not_change_another_one(self):
        program = Program((), (("for", "i", ("", 0), ("", 3), (("read", "x"),), ()), ("read", "y")))
        one, two = Running(program, {}), Running(program, {})
        one(5)
        one(6)
        self.assertEqual((one.where, two.where), ((0, 0, 0), (0, 0, 0)))
        for answer in (7, 8):
            one(answer)
        self.assertEqual(one.result, (("end",), {"y": 8}))
        self.assertEqual((two(1), two(2), two(3), two(4), two.result), ("read", "read", "read", None, (("end",), {"y": 4})))
        one.result[1]["y"] = 0
        self.assertEqual(one.result, (("end",), {"y": 8}))


if __name__ == "__main__":
    unittest.main()
