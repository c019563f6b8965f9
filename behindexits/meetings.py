"""Several ways that meet, and programs that are compared."""

from behindexits.behind import can_end, part_behind, parts_over, some_behind
from behindexits.covers import Cover
from behindexits.errors import NoWay, Unlike
from behindexits.states import States
from behindexits.terms import check_row, check_terms
from behindexits.ways import check_way, kept_ways
from behindexits.zones import opposite


def states_over(program, way, names):
    """The states behind a way, over some of the names known there, in ascending order."""
    walk, part = part_behind(program, way)
    return States(names, Cover(parts_over(walk, part, names)))


def check_ways(program, ways):
    if not isinstance(ways, tuple) or not ways:
        raise NoWay(ways)
    for way in ways:
        check_way(program, way)


def known_at_all(program, ways):
    """The names known at all of the ways, in ascending order."""
    names = kept_ways(program)[ways[0]]
    for way in ways:
        names = tuple([name for name in names if name in kept_ways(program)[way]])
    return names


def joined(program, ways):
    """The states behind one of the ways, over the names that are known at all of them."""
    check_ways(program, ways)
    names = known_at_all(program, ways)
    found = States(names, ())
    for way in ways:
        found = found | states_over(program, way, names)
    return found


def within(program, way, other):
    """A state behind a way that is none behind the other one, over the names known at both; None if there is none."""
    check_way(program, way)
    check_way(program, other)
    names = known_at_all(program, (way, other))
    return (states_over(program, way, names) - states_over(program, other, names)).some()


def alike(one, other):
    """The first difference of two programs, as their ways and what stands behind them tell, or None."""
    if sorted(one.inputs, key=str) != sorted(other.inputs, key=str):
        raise Unlike()
    both = {way: True for way in list(kept_ways(one)) + list(kept_ways(other))}
    for way in sorted(list(both), key=str):
        ends = can_take(one, way)
        if ends != can_take(other, way):
            return (way, None)
        if ends:
            state = difference(one, other, way)
            if state is not None:
                return (way, state)
    return None


def can_take(program, way):
    return way in kept_ways(program) and can_end(program, way)


def difference(one, other, way):
    """A state behind a way in just one of two programs, over the names known at it in both, or None."""
    names = tuple([name for name in kept_ways(one)[way] if name in kept_ways(other)[way]])
    left = states_over(one, way, names)
    right = states_over(other, way, names)
    found = (left - right).some()
    return (right - left).some() if found is None else found


def may_join(program, ways, literals):
    """Whether all literals hold behind all the ways."""
    check_ways(program, ways)
    check_row(literals)
    names = known_at_all(program, ways)
    for literal in literals:
        check_terms(literal, names)
    for way in ways:
        for literal in literals:
            if some_behind(program, way, (opposite(literal),)) is not None:
                return False
    return True
