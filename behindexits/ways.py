"""The ways out of a program by form, and the names that are known at them and before statements."""

from behindexits.errors import NoPlace, NoWay
from behindexits.flows import END


def ways(program):
    """The ways out, in ascending order."""
    return list(kept_ways(program))


def kept_ways(program):
    """The ways out, in ascending order, as keys of a dict with the names known at each."""
    if "ways" not in program.kept:
        flow = program.flow
        found = [END] if END in flow else []
        for word in ("out", "raise"):
            found.extend([(word, name) for name in sorted([way[1] for way in flow if way[0] == word], key=str)])
        program.kept["ways"] = {way: known_by_form(program, way) for way in found}
    return program.kept["ways"]


def known_by_form(program, way):
    names = program.inputs + ("value",) if way[0] == "raise" else program.flow[way]
    return tuple(sorted(names, key=str))


def check_way(program, way):
    if way not in list(kept_ways(program)):
        raise NoWay(way)


def known(program, way):
    """The names known at a way out."""
    check_way(program, way)
    return list(kept_ways(program)[way])


def known_at(program, place):
    """The names known before the statement at a place."""
    if place not in program:
        raise NoPlace(place)
    return sorted(program.known_before[place], key=str)
