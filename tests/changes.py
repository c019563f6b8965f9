"""Programs written in another way."""

from tests.byform import blocks_in


def rebuilt(block, change):
    """The block with each statement changed, those within it first; a change gives a tuple of statements."""
    found = ()
    for statement in block:
        found += change(with_blocks(statement, [rebuilt(inner, change) for inner in blocks_in(statement)]))
    return found


def with_blocks(statement, blocks):
    word = statement[0]
    if word in ("if", "choose", "for"):
        return statement[:-2] + tuple(blocks)
    if word == "try":
        handlers = tuple(handler[:2] + (inner,) for handler, inner in zip(statement[2], blocks[1:]))
        return (word, blocks[0], handlers) + tuple(blocks[-2:])
    return statement


def renamed(statement, names):
    """One statement, what stands in its blocks left out, with other names for variables."""
    word = statement[0]

    def value(old):
        return (names.get(old[0], old[0]), old[1])

    def literal(old):
        return (names.get(old[0], old[0]), names.get(old[1], old[1]), old[2])

    if word in ("if", "ask"):
        return (word, literal(statement[1])) + statement[2:]
    if word == "raise":
        return statement[:2] + (value(statement[2]),)
    if word == "try":
        handlers = tuple((kinds, names.get(name, name), block) for kinds, name, block in statement[2])
        return statement[:2] + (handlers,) + statement[3:]
    if word in ("set", "read", "for"):
        return (word, names.get(statement[1], statement[1])) + tuple(
            value(part) if word == "set" or at < 2 else part for at, part in enumerate(statement[2:])
        )
    return statement


def moved_literal(literal, by):
    left, right, number = literal
    return (left, right, number + (by if right == "" else 0) - (by if left == "" else 0))


def moved_value(value, by):
    return (value[0], value[1] + (by if value[0] == "" else 0))


def moved(statement, by):
    """One statement, what stands in its blocks left out, for names that all are greater by a number."""
    word = statement[0]
    if word in ("if", "ask"):
        return (word, moved_literal(statement[1], by)) + statement[2:]
    if word in ("set", "raise"):
        return statement[:2] + (moved_value(statement[2], by),)
    if word == "for":
        return statement[:2] + (moved_value(statement[2], by), moved_value(statement[3], by)) + statement[4:]
    return statement


def swapped(statement):
    """One statement with its parts in another order."""
    word = statement[0]
    if word == "if":
        left, right, number = statement[1]
        return (word, (right, left, -number - 1), statement[3], statement[2])
    if word == "choose":
        return (word, statement[2], statement[1])
    return statement


def put(statement, name, number):
    """One statement, what stands in its blocks left out, with a number in the place of a name that it does not set."""

    def value(old):
        return ("", old[1] + number) if old[0] == name else old

    def literal(old):
        left, right, most = old
        if left == name:
            left, most = "", most - number
        if right == name:
            right, most = "", most + number
        return (left, right, most)

    word = statement[0]
    if word in ("if", "ask"):
        return (word, literal(statement[1])) + statement[2:]
    if word in ("set", "raise"):
        return statement[:2] + (value(statement[2]),)
    if word == "for":
        return statement[:2] + (value(statement[2]), value(statement[3])) + statement[4:]
    return statement
