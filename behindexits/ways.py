"""The ways out of a program by form, and the names that are known at them and before statements."""

from behindexits.checks import Check
from behindexits.errors import NoPlace, NoWay
from behindexits.flows import END


def ways(program):
    """The ways out, in ascending order."""
    flow = flow_of(program)
    found = [END] if END in flow else []
    for word in ("out", "raise"):
        found.extend([(word, name) for name in sorted([way[1] for way in flow if way[0] == word], key=str)])
    return found


def flow_of(program):
    return Check(program.inputs, program.block).block_flow(program.block, (), program.inputs, False)


def check_way(program, way):
    if way not in ways(program):
        raise NoWay(way)


def known(program, way):
    """The names known at a way out."""
    check_way(program, way)
    names = program.inputs + ("value",) if way[0] == "raise" else flow_of(program)[way]
    return sorted(list(names), key=str)


def known_at(program, place):
    """The names known before the statement at a place."""
    if place not in program:
        raise NoPlace(place)
    check = Check(program.inputs, program.block)
    check.block_flow(program.block, (), program.inputs, False)
    return sorted(list(check.known[place]), key=str)
