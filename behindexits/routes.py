"""Routes: the paths by form through blocks and statements, counted and listed by their ways.

A route is a tuple (decisions, way). Ways that are wanted are the keys of a dict.
"""

from behindexits.flows import END, LEAVE, first_fit
from behindexits.forms import blocks_of

# Statements that have one route, to the end and without decisions.
STRAIGHT = ("set", "read")


def following(statement, way):
    """The number of the part that follows when the block of a try has gone out by a way, or None if none does."""
    handlers = statement[2]
    if way == END:
        return 1 + len(handlers)
    at = first_fit(handlers, way[1]) if way[0] == "raise" else None
    return None if at is None else 1 + at


def add_counts(found, counts, times):
    """Add to the numbers of routes those of others, each of which is there so many times."""
    for way in counts:
        found[way] = found.get(way, 0) + times * counts[way]


def block_counts(block):
    """How many routes there are to each way out of a block."""
    found = {}
    many = 1
    for statement in block:
        if statement[0] not in STRAIGHT:
            counts = statement_counts(statement)
            add_counts(found, {way: counts[way] for way in counts if way != END}, many)
            many = many * counts.get(END, 0)
    if many > 0:
        found[END] = many
    return found


def statement_counts(statement):
    """The same for a statement that is not straight."""
    word = statement[0]
    if word == "ask":
        return {END: 1, ("raise", statement[2]): 1}
    if word == "raise":
        return {("raise", statement[1]): 1}
    if word == "try":
        return try_counts(statement)
    if word == "for":
        found = block_counts(statement[5])
        body = block_counts(statement[4])
        add_counts(found, {way: body[way] for way in body if way[0] in ("out", "raise")}, 1)
        if LEAVE in body:
            add_counts(found, {END: body[LEAVE]}, 1)
        return found
    if word in ("if", "choose"):
        yes, no = blocks_of(statement)
        found = block_counts(yes)
        add_counts(found, block_counts(no), 1)
        return found
    return {statement: 1}


def try_counts(statement):
    blocks = blocks_of(statement)
    block = block_counts(blocks[0])
    before = {}
    for way in block:
        number = following(statement, way)
        add_counts(before, {way: 1} if number is None else block_counts(blocks[number]), block[way])
    always = block_counts(blocks[-1])
    found = {}
    for way in before:
        for last in always:
            add_counts(found, {way if last == END else last: always[last]}, before[way])
    return found


def block_routes(block, wanted):
    """The routes to the wanted ways out of a block, in ascending order."""
    tails = [((), END)] if END in wanted else []
    others = [statement for statement in block if statement[0] not in STRAIGHT]
    for statement in reversed(list(others)):
        inner = {way: True for way in wanted if way != END}
        if tails:
            inner[END] = True
        found = []
        for decisions, way in statement_routes(statement, inner):
            if way == END:
                found.extend([(decisions + more, last) for more, last in tails])
            else:
                found.append((decisions, way))
        tails = found
    return tails


def statement_routes(statement, wanted):
    """The same for a statement that is not straight."""
    word = statement[0]
    if word in ("if", "choose"):
        yes, no = blocks_of(statement)
        return decided(0, block_routes(yes, wanted)) + decided(1, block_routes(no, wanted))
    if word == "for":
        return decided(0, block_routes(statement[5], wanted)) + decided(1, turn_routes(statement[4], wanted))
    if word == "try":
        return try_routes(statement, wanted)
    if word == "ask":
        found = [((0,), END), ((1,), ("raise", statement[2]))]
    elif word == "raise":
        found = [((), ("raise", statement[1]))]
    else:
        found = [((), statement)]
    return [route for route in found if route[1] in wanted]


def decided(decision, routes):
    """The routes behind a decision."""
    return [((decision,) + decisions, way) for decisions, way in routes]


def turn_routes(body, wanted):
    """The routes to the wanted ways out of a loop with this body by a turn that goes out."""
    inner = {way: True for way in wanted if way[0] in ("out", "raise")}
    if END in wanted:
        inner[LEAVE] = True
    return [(decisions, END if way == LEAVE else way) for decisions, way in block_routes(body, inner)]


def try_routes(statement, wanted):
    blocks = blocks_of(statement)
    last = block_counts(blocks[-1])
    # By these ways the always part goes to a wanted way, whatever was before.
    away = [way for way in last if way != END and way in wanted]
    kept = wanted if END in last else {}
    found = []
    for decisions, way in block_routes(blocks[0], before_always(statement, kept, away)):
        number = following(statement, way)
        middle = [((), way)] if number is None else block_routes(blocks[number], leading(blocks[number], kept, away))
        for more, past in middle:
            ends = {way: True for way in away}
            if past in kept:
                ends[END] = True
            for rest, end in block_routes(blocks[-1], ends):
                found.append((decisions + more + rest, past if end == END else end))
    return found


def leading(block, kept, away):
    """The ways out of a part of a try that lead to a wanted way, as it is kept or the always part goes away."""
    return {way: True for way in block_counts(block) if away or way in kept}


def before_always(statement, kept, away):
    """The ways out of the block of a try that lead to a wanted way."""
    blocks = blocks_of(statement)
    found = {}
    for way in block_counts(blocks[0]):
        number = following(statement, way)
        if away or way in kept if number is None else leading(blocks[number], kept, away):
            found[way] = True
    return found
