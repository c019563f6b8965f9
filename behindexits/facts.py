"""What holds behind the ways out of a program, and which turns of its loops can pass."""

from behindexits.behind import parts_behind, some_behind
from behindexits.covers import are_inside, hull
from behindexits.errors import Never, NoPlace, NoValues
from behindexits.terms import check_literal, check_terms
from behindexits.turns import turns_of
from behindexits.ways import check_way, kept_ways, known, known_at
from behindexits.words import are_numbers
from behindexits.zones import opposite


def check_known_literal(program, way, literal):
    """Check a way, and a literal over the names known at it."""
    check_way(program, way)
    check_literal(literal)
    check_terms(literal, kept_ways(program)[way])


def holds(program, way, literal):
    """Whether a literal holds in all states behind a way."""
    check_known_literal(program, way, literal)
    return some_behind(program, way, (opposite(literal),)) is None


def some_parts_behind(program, way):
    parts = parts_behind(program, way)
    if not parts:
        raise Never(way)
    return parts


def tightest(program, way):
    """For each two terms the least number such that left <= right + number behind a way, or None if there is none."""
    zone = hull(some_parts_behind(program, way))
    terms = [""] + known(program, way)
    found = {}
    for i, left in enumerate(terms):
        for j, right in enumerate(terms):
            if i != j:
                found[(left, right)] = zone[i][j]
    return found


def is_whole(program, way):
    """Whether all states that meet the tightest differences behind a way are states behind it."""
    parts = some_parts_behind(program, way)
    return are_inside([(hull(parts), ())], parts)


def passes(program, place, values):
    """The stretches of turns of the loop at a place that can pass with these values of the names known there."""
    if program[place][0] != "for":
        raise NoPlace(place)
    if not are_numbers(values, known_at(program, place)):
        raise NoValues()
    return turns_of(program, place).stretches(values)
