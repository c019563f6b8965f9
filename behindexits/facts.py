"""What holds behind the ways out of a program, and which turns of its loops can pass."""

from behindexits.behind import part_of, parts_behind, parts_over, some_behind
from behindexits.cases import joint, narrowed
from behindexits.covers import are_inside, hull
from behindexits.errors import Never, NoPlace, NoValues
from behindexits.flows import AGAIN, END
from behindexits.parts import EMPTY, has_state
from behindexits.shadows import inner_literals
from behindexits.walks import Walk, equality
from behindexits.terms import check_literal, check_terms
from behindexits.ways import check_way, kept_ways, known, known_at
from behindexits.words import are_numbers
from behindexits.zones import literals_of, opposite


def holds(program, way, literal):
    """Whether a literal holds in all states behind a way."""
    check_way(program, way)
    check_literal(literal)
    check_terms(literal, kept_ways(program)[way])
    return some_behind(program, way, (opposite(literal),)) is None


def some_parts_behind(program, way):
    parts = parts_behind(program, way)
    if not parts:
        raise Never(way)
    return parts


def tightest(program, way):
    """For each two terms the least number such that left <= right + number behind a way, or None if there is none."""
    zone = hull(some_parts_behind(program, way))
    terms = [""] + known(program, way)
    found = {}
    for i, left in enumerate(terms):
        for j, right in enumerate(terms):
            if i != j:
                found[(left, right)] = zone[i][j]
    return found


def is_whole(program, way):
    """Whether all states that meet the tightest differences behind a way are states behind it."""
    parts = some_parts_behind(program, way)
    return are_inside([(hull(parts), ())], parts)


def passes(program, place, values):
    """The stretches of turns of the loop at a place that can pass with these values of the names known there."""
    if program[place][0] != "for":
        raise NoPlace(place)
    if not are_numbers(values, known_at(program, place)):
        raise NoValues()
    word, name, low, high, body, other = program[place]
    walk = Walk(program, None)
    valued = EMPTY
    for term in values:
        valued = joint(valued, equality(walk.indexes[term], (0, values[term])))
    ways = walk.block_ways(body, place + (0,), narrowed(walk.start, valued))
    part = part_of(walk, [joint(valued, ways[way]) for way in (END, AGAIN) if way in ways])
    return stretches_of(parts_over(walk, part, [name]))


def stretches_of(parts):
    """The stretches (first, behind) of the integers in parts over one integer."""
    places = {}
    for zone, clauses in parts:
        for i, j, number in literals_of(zone) + inner_literals(clauses):
            places[number + 1 if j == 0 else -number] = True
    edges = sorted(list(places), key=int)
    found = []
    first = None
    inside = is_in(parts, edges[0] - 1 if edges else 0)
    # From one edge to the next one all integers are in the parts, or none is.
    for edge in edges:
        now = is_in(parts, edge)
        if inside and not now:
            found.append((first, edge))
        if not inside:
            first = edge
        inside = now
    return found + [(first, None)] if inside else found


def is_in(parts, number):
    return any([has_state(part, [0, number]) for part in parts])
