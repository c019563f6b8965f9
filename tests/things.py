"""Objects of many kinds, to be put where something else belongs. There is no float among them."""

import copy

from behindexits.errors import BadProgram, NoStates
from behindexits.programs import Program
from behindexits.runs import Running
from behindexits.states import States


def nested(depth):
    thing = ()
    for _ in range(depth):
        thing = (thing,)
    return thing


def generator():
    yield 1


def odd_things():
    """New objects at each call; some of them have no hash, some are nested deep."""
    plain = [
        None, True, False, 0, 1, -1, 300, 10 ** 99, 1j, "", "a", "n", "value", "raise", "x y", "\u00e9", "a\n",
        b"", b"a", bytearray(b"a"), memoryview(b"a"), range(2), slice(1), Ellipsis, NotImplemented, object(), int, len,
        print, generator(), iter([1]), zip([1]), frozenset(["a"]), set(), {"a"}, ValueError, ValueError("a"), property(),
        Program(("n",), ()), States(("n",), ((),)), NoStates(), BadProgram((), "form"), Program, States,
        Running(Program((), (("read", "x"),)), {}), Running(Program(("n",), ()), {"n": 1}), Running,
        (), [], {}, ("a",), ("a", "b"), ["a"], {"a": 1}, {"n": True}, ("", "", True), ["", "", 0], ("", "", "0"),
        ("a", "", 1, 2), ("", b"", 0), ("", "", 1j), (("", "", 0),), nested(59),
    ]
    held = [thing for thing in plain if not isinstance(thing, (zip, memoryview))]
    return plain + [(thing,) for thing in held] + [[thing] for thing in held] + [{"a": thing} for thing in held]


def is_same(one, other):
    """Whether it is the very same object."""
    return one is other


def frozen(thing):
    """A copy to compare with later on."""
    return copy.deepcopy(thing)
