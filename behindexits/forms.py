"""The shapes of statements, the blocks in them and their places."""

from behindexits.words import are_names, is_name, is_named_literal, is_number, is_value

# What stands in a statement behind its word.
SHAPES = {
    "set": ("name", "value"),
    "read": ("name",),
    "if": ("literal", "block", "block"),
    "choose": ("block", "block"),
    "ask": ("literal", "name"),
    "raise": ("name", "value"),
    "out": ("name",),
    "leave": (),
    "again": (),
    "for": ("name", "value", "value", "block", "block"),
    "try": ("block", "handlers", "block", "block"),
}
MOST_HANDLERS = 3


def has_shape(thing):
    """Whether an object is a statement by itself: what stands in its blocks is not looked at."""
    if not isinstance(thing, tuple) or not thing or not isinstance(thing[0], str) or thing[0] not in SHAPES:
        return False
    shape = SHAPES[thing[0]]
    if len(thing) != 1 + len(shape):
        return False
    return all([is_of_kind(part, kind) for part, kind in zip(thing[1:], shape)])


def is_of_kind(part, kind):
    if kind == "name":
        return is_name(part)
    if kind == "value":
        return is_value(part)
    if kind == "literal":
        return is_named_literal(part)
    if kind == "block":
        return isinstance(part, tuple)
    return isinstance(part, tuple) and len(part) <= MOST_HANDLERS and all([is_handler(item) for item in part])


def is_handler(thing):
    if not isinstance(thing, tuple) or len(thing) != 3:
        return False
    kinds, name, block = thing
    return are_names(kinds) and (name is None or is_name(name)) and isinstance(block, tuple)


def terms_of(statement):
    """The terms that a statement looks at, in their order."""
    word = statement[0]
    if word in ("set", "raise"):
        return [statement[2][0]]
    if word in ("if", "ask"):
        return [statement[1][0], statement[1][1]]
    return [statement[2][0], statement[3][0]] if word == "for" else []


def handlers_of(statement):
    return statement[2] if statement[0] == "try" else ()


def blocks_of(statement):
    """The blocks of a statement, by their numbers."""
    word = statement[0]
    if word == "for":
        return [statement[4], statement[5]]
    if word == "try":
        return [statement[1]] + [block for kinds, name, block in statement[2]] + [statement[3], statement[4]]
    if word in ("if", "choose"):
        return [statement[-2], statement[-1]]
    return []


def with_blocks(statement, blocks):
    """The statement with other blocks, by their numbers."""
    word = statement[0]
    if word == "for":
        return statement[:4] + tuple(blocks)
    if word == "try":
        heads = [handler[:2] for handler in statement[2]]
        handlers = [head + (block,) for head, block in zip(heads, blocks[1:])]
        return (word, blocks[0], tuple(handlers), blocks[-2], blocks[-1])
    if word in ("if", "choose"):
        return statement[:-2] + tuple(blocks)
    return statement


def changed(block, before, ahead, gone):
    """The block with further statements, and without some; before is what the places in it begin with.

    ahead has tuples of statements for the places ahead of which they are put, gone has the places of those left out.
    """
    found = []
    for index, statement in enumerate(block):
        place = before + (index,)
        found.extend(list(ahead.get(place, ())))
        if place not in gone:
            blocks = []
            for number, inner in enumerate(blocks_of(statement)):
                blocks.append(changed(inner, place + (number,), ahead, gone))
            found.append(with_blocks(statement, blocks))
    return tuple(found)


def settings_of(statement, place):
    """A pair (name, path) for each name that a statement sets.

    The path is the place of the statement, and the number of the handler behind it if a handler has the name.
    """
    if statement[0] in ("set", "read", "for"):
        return [(statement[1], place)]
    found = []
    for at, (kinds, name, block) in enumerate(handlers_of(statement)):
        if name is not None:
            found.append((name, place + (1 + at,)))
    return found


def statement_at(block, place):
    """The statement at a place in a program's block, or None if an object is no place in it."""
    if not isinstance(place, tuple) or not all([is_number(step) for step in place]):
        return None
    blocks = [block]
    number = 0
    for at in range(0, len(place), 2):
        if not 0 <= number < len(blocks) or not 0 <= place[at] < len(blocks[number]):
            return None
        statement = blocks[number][place[at]]
        if at + 1 == len(place):
            return statement
        blocks = blocks_of(statement)
        number = place[at + 1]
    return None


def places_in(block, before):
    """The places in a block in reading order: before is what all of them begin with."""
    found = []
    for index, statement in enumerate(block):
        place = before + (index,)
        found.append(place)
        for number, inner in enumerate(blocks_of(statement)):
            found.extend(places_in(inner, place + (number,)))
    return found
