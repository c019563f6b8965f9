"""What stands behind the ways out of a program, and what comes to its statements."""

from behindexits.cases import any_of, has_some, joint, lean, narrowed
from behindexits.covers import Cover, spread_out, trimmed
from behindexits.parts import EMPTY, settled
from behindexits.shadows import shadow
from behindexits.states import States
from behindexits.walks import HERE, Walk, equality
from behindexits.ways import check_way, known, known_at


def behind(program, way):
    """The states with which runs come out by a way."""
    return States(tuple(known(program, way)), Cover(parts_behind(program, way)))


def can_end(program, way):
    """Whether a run comes out by a way."""
    check_way(program, way)
    return part_behind(Walk(program, None), way) is not None


def coming(program, place):
    """The states with which runs come to the statement at a place."""
    names = known_at(program, place)
    walk = Walk(program, place)
    ways = walk.ways()
    part = part_of(walk, [ways[HERE]] if HERE in ways else [])
    return States(tuple(names), Cover(parts_over(walk, part, names)))


def parts_behind(program, way):
    """The states behind a way as parts over the names known there, in their order."""
    names = known(program, way)
    walk = Walk(program, None)
    return parts_over(walk, part_behind(walk, way), names)


def part_behind(walk, way):
    """The part over all names with which runs come out by a way, or None."""
    ways = walk.ways()
    cases = []
    for past in ways:
        if past[:2] == way:
            error = equality(walk.indexes["value"], past[2:]) if way[0] == "raise" else EMPTY
            cases.append(joint(ways[past], error))
    return part_of(walk, cases)


def part_of(walk, cases):
    """The part over all names with which one of the cases fits, or None if it has no state."""
    part = narrowed(walk.start, any_of(cases))
    return part if part is not None and has_some(part, ()) else None


def parts_over(walk, part, names):
    """Parts over the names, in their order, that are together the shadow of a part on them; none if it is None."""
    if part is None:
        return ()
    indexes = [0] + [walk.indexes[name] for name in names]
    hidden = [i for i in range(walk.behind) if i not in indexes]
    return trimmed(spread_out(settled(shadow(lean(part, ()), hidden, ())), indexes))
