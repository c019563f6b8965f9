"""What holds at places, and what of a program is never needed."""

from behindexits.behind import part_coming, part_of, some_with
from behindexits.errors import BadChoices
from behindexits.forms import blocks_of, changed
from behindexits.programs import Program
from behindexits.terms import check_literal, check_terms
from behindexits.walks import HERE, Walk
from behindexits.ways import known_at
from behindexits.zones import opposite


def holds_at(program, place, literal):
    """Whether a literal holds in all states that come to the statement at a place."""
    names = known_at(program, place)
    check_literal(literal)
    check_terms(literal, names)
    return some_with(part_coming(program, place), (opposite(literal),)) is None


def needless(program):
    """The places of the asks that never fail, and the pairs of a place and the number of a block that none begins."""
    if "needless" not in program.kept:
        program.kept["needless"] = never_needed(program)
    asks, blocks = program.kept["needless"]
    return (list(asks), list(blocks))


def never_needed(program):
    walk = Walk(program, None, None, True)
    ways = walk.ways()
    asks = []
    blocks = []
    for place in program.places():
        statement = program[place]
        if statement[0] == "ask" and not is_taken(walk, ways, HERE + place):
            asks.append(place)
        for number in range(len(blocks_of(statement))):
            if not is_taken(walk, ways, HERE + place + (number,)):
                blocks.append((place, number))
    return (asks, blocks)


def is_taken(walk, ways, way):
    return way in ways and some_with((walk, part_of(walk, [ways[way]])), ()) is not None


def dropped(program, places):
    """The program without the asks at some places."""
    if not isinstance(places, tuple):
        raise BadChoices(-1)
    for index, place in enumerate(places):
        if place not in program or program[place][0] != "ask":
            raise BadChoices(index)
    return Program(program.inputs, changed(program.block, (), {}, {place: True for place in places}))
