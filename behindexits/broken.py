"""Descriptions of runs as paths with values: how they are judged, and how one is found that breaks a literal."""

from behindexits.behind import part_behind, some_behind
from behindexits.errors import NoPath
from behindexits.facts import check_known_literal
from behindexits.paths import check_paths, kept_paths
from behindexits.traces import trace_of
from behindexits.turns import first_stopping
from behindexits.words import are_numbers
from behindexits.zones import opposite, point_of


def value_of(values, term):
    return 0 if term == "" else values[term]


def does_hold(program, values, fact):
    """Whether a fact of a path holds with these values of the names along it."""
    if fact[0] == "most":
        word, left, right, number = fact
        return value_of(values, left) <= value_of(values, right) + number
    word, place, (low, m), (high, k) = fact
    names = program.known_before[place]
    there = {name: values[name] for name in names}
    return first_stopping(program, place, there, value_of(values, low) + m, value_of(values, high) + k) is None


def first_wrong(program, facts, values):
    """The index of the first fact that does not hold with the values, or None."""
    for index, fact in enumerate(facts):
        if not does_hold(program, values, fact):
            return index
    return None


def run_fault(program, path, values):
    """What is wrong with a path and values as those of a run, or None."""
    try:
        trace = trace_of(program, path)
    except NoPath:
        return ("path",)
    if not are_numbers(values, trace.names):
        return ("values",)
    index = first_wrong(program, trace.facts, values)
    return None if index is None else ("fact", index)


def breaking(program, way, literal):
    """A path to a way and values with which a run goes along it and the literal does not hold, or None."""
    check_known_literal(program, way, literal)
    check_paths(program, way)
    zone = some_behind(program, way, (opposite(literal),))
    return None if zone is None else path_with(program, way, zone)


def path_with(program, way, zone):
    """A path to a way and values along it: there is a run that comes out by the way with a state of the zone."""
    walk, part = part_behind(program, way)
    numbers = point_of(zone)
    for path in kept_paths(program, way):
        trace = trace_of(program, path)
        values = {name: numbers[walk.indexes[name]] for name in trace.names}
        if first_wrong(program, trace.facts, values) is None:
            return (path, values)
    return None
