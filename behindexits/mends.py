"""Mends: statements that are put into programs, and the fewest tests that make a wish hold behind a way."""

from itertools import combinations

from behindexits.behind import part_out, some_behind, some_with
from behindexits.errors import BadChoices, NoPlace, NoWay
from behindexits.forms import changed
from behindexits.programs import Program
from behindexits.terms import check_literal, check_terms
from behindexits.walks import MET, Walk
from behindexits.ways import check_way, kept_ways, known_at
from behindexits.words import is_literal
from behindexits.zones import opposite

WISH = ("out", "wish")


def put_in(program, place, statement):
    """The program with a statement ahead of the one at a place."""
    if place not in program:
        raise NoPlace(place)
    return with_ahead(program, {place: (statement,)})


def with_ahead(program, ahead):
    """The program with statements ahead of those at some places."""
    return Program(program.inputs, changed(program.block, (), ahead, {}))


def check_wish(program, way, wish):
    check_way(program, way)
    if WISH in kept_ways(program):
        raise NoWay(WISH)
    check_literal(wish)
    check_terms(wish, kept_ways(program)[way])


def harmless(program, way, wish, place, literal):
    """Whether the test for a literal ahead of the statement at a place loses no run that ends in a way with a wish."""
    check_wish(program, way, wish)
    names = known_at(program, place)
    check_literal(literal)
    check_terms(literal, names)
    return is_harmless(program, way, wish, (place, literal))


def is_harmless(program, way, wish, choice):
    walk, ways = walk_with(program, choice)
    met = {past[1:]: ways[past] for past in ways if past[0] == MET and past[1:3] == way}
    return some_with((walk, part_out(walk, met)), (wish,)) is None


def walk_with(program, choice):
    """A walk that looks at the test for a literal ahead of a place, with the ways that it finds."""
    key = ("met", choice)
    if key not in program.kept:
        place, literal = choice
        walk = Walk(program, place, literal)
        program.kept[key] = (walk, walk.ways())
    return program.kept[key]


def asked(program, way, wish, choices):
    """The indexes of the fewest tests that lose no run and make a wish hold behind a way, or None."""
    check_wish(program, way, wish)
    check_choices(program, choices)
    fit = [index for index, choice in enumerate(choices) if is_harmless(program, way, wish, choice)]
    for many in range(len(fit) + 1):
        for chosen in combinations(fit, many):
            if is_met(program, way, wish, [choices[index] for index in chosen]):
                return chosen
    return None


def check_choices(program, choices):
    if not isinstance(choices, tuple):
        raise BadChoices(-1)
    for index, choice in enumerate(choices):
        if not is_choice(program, choice):
            raise BadChoices(index)


def is_choice(program, choice):
    """Whether an object is a pair of a place and a literal over the names known there."""
    if not isinstance(choice, tuple) or len(choice) != 2:
        return False
    place, literal = choice
    if place not in program or not is_literal(literal):
        return False
    names = known_at(program, place)
    return all([term == "" or term in names for term in literal[:2]])


def is_met(program, way, wish, chosen):
    """Whether the wish holds behind the way in the program with the tests of the chosen pairs."""
    ahead = {}
    for place, literal in chosen:
        ahead[place] = ahead.get(place, ()) + (("if", literal, (), (WISH,)),)
    other = with_ahead(program, ahead) if ahead else program
    return way not in kept_ways(other) or some_behind(other, way, (opposite(wish),)) is None
