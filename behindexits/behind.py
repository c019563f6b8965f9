"""What stands behind the ways out of a program, and what comes to its statements."""

from behindexits.cases import any_of, has_some, joint, lean, narrowed
from behindexits.covers import Cover, spread_out, trimmed
from behindexits.parts import EMPTY, few_zones, free_zone, settled
from behindexits.shadows import shadow
from behindexits.states import States
from behindexits.walks import HERE, Walk, equality
from behindexits.ways import check_way, kept_ways, known_at
from behindexits.zones import picked


def behind(program, way):
    """The states with which runs come out by a way."""
    parts = parts_behind(program, way)
    return States(kept_ways(program)[way], Cover(parts))


def can_end(program, way):
    """Whether a run comes out by a way."""
    check_way(program, way)
    return some_behind(program, way, ()) is not None


def coming(program, place):
    """The states with which runs come to the statement at a place."""
    names = known_at(program, place)
    key = ("coming", place)
    if key not in program.kept:
        walk, part = part_coming(program, place)
        program.kept[key] = parts_over(walk, part, names)
    return States(tuple(names), Cover(program.kept[key]))


def parts_behind(program, way):
    """The states behind a way as parts over the names known there, in their order."""
    check_way(program, way)
    key = ("behind", way)
    if key not in program.kept:
        walk, part = part_behind(program, way)
        program.kept[key] = parts_over(walk, part, kept_ways(program)[way])
    return program.kept[key]


def walk_of(program):
    """A walk through the program, with the ways that it finds."""
    if "walk" not in program.kept:
        walk = Walk(program)
        program.kept["walk"] = (walk, walk.ways())
    return program.kept["walk"]


def part_behind(program, way):
    """A walk, and the part over all its names with which runs come out by a way, or None."""
    walk, ways = walk_of(program)
    key = ("part", way)
    if key not in program.kept:
        program.kept[key] = part_out(walk, {past: ways[past] for past in ways if past[:2] == way})
    return (walk, program.kept[key])


def part_out(walk, ways):
    """The part over all names of a walk with which runs come out by ways, with the values of errors, or None."""
    cases = []
    for past in ways:
        error = equality(walk.indexes["value"], past[2:]) if past[0] == "raise" else EMPTY
        cases.append(joint(ways[past], error))
    return part_of(walk, cases)


def part_coming(program, place):
    """A walk, and the part over all its names with which runs come to the statement at a place, or None."""
    key = ("here", place)
    if key not in program.kept:
        walk = Walk(program, place)
        ways = walk.ways()
        program.kept[key] = (walk, part_of(walk, [ways[HERE]] if HERE in ways else []))
    return program.kept[key]


def some_behind(program, way, literals):
    """A zone of states behind a way, over all names of the walk, with which the literals hold, or None."""
    return some_with(part_behind(program, way), literals)


def some_with(found, literals):
    """A zone in the part of a walk with which the literals over names hold, or None if there is none."""
    walk, part = found
    inner = [(walk.indexes[left], walk.indexes[right], number) for left, right, number in literals]
    left = None if part is None else narrowed(part, (tuple(inner), ()))
    return None if left is None else free_zone(left)


def part_of(walk, cases):
    """The part over all names with which one of the cases fits, or None if it is seen to have no state."""
    return narrowed(walk.start, any_of(cases)) if cases else None


def parts_over(walk, part, names):
    """Parts over the names, in their order, that are together the shadow of a part on them; none if it is None."""
    if part is None:
        return ()
    indexes = [0] + [walk.indexes[name] for name in names]
    zones = few_zones(part)
    if zones is not None:
        return trimmed([(picked(zone, indexes), ()) for zone in zones])
    if not has_some(part, ()):
        return ()
    hidden = [i for i in range(walk.behind) if i not in indexes]
    return trimmed(spread_out(settled(shadow(lean(part, ()), hidden, ())), indexes))
