"""Programs as texts."""

from behindexits.forms import blocks_of
from behindexits.programs import Program
from behindexits.rows import TAILS, read_rows, statement_of


def value_text(value):
    term, number = value
    if term == "":
        return str(number)
    if number == 0:
        return term
    return f"{term} + {number}" if number > 0 else f"{term} - {-number}"


def literal_text(literal):
    left, right, number = literal
    return value_text((left, 0)) + " <= " + value_text((right, number))


def shown(program):
    """The text of a program."""
    rows = [" ".join(["inputs"] + list(program.inputs))]
    return "\n".join(rows + block_rows(program.block, ""))


def block_rows(block, margin):
    """The rows of a block, each with a margin in front of it."""
    found = []
    for statement in block:
        found.append(margin + head_text(statement))
        for word, inner in tails_of(statement):
            if word != "":
                found.append(margin + word)
            found.extend(block_rows(inner, margin + "  "))
    return found


def head_text(statement):
    """The row of a statement without its margin."""
    word = statement[0]
    if word == "set":
        return f"set {statement[1]} = {value_text(statement[2])}"
    if word == "ask":
        return f"ask {literal_text(statement[1])} or {statement[2]}"
    if word == "raise":
        return f"raise {statement[1]} {value_text(statement[2])}"
    if word == "if":
        return f"if {literal_text(statement[1])}"
    if word == "for":
        return f"for {statement[1]} from {value_text(statement[2])} below {value_text(statement[3])}"
    if word in ("read", "out"):
        return f"{word} {statement[1]}"
    return word


def tails_of(statement):
    """The blocks of a statement that are shown, each behind the row of its own, or "" for the first one."""
    blocks = blocks_of(statement)
    found = [("", block) for block in blocks[:1]]
    if statement[0] == "try":
        for kinds, name, block in statement[2]:
            found.append((catch_text(kinds, name), block))
    words = ("else", "always") if statement[0] == "try" else ("else",)
    for word, block in zip(words, blocks[-len(words):] if blocks else ()):
        if block:
            found.append((word, block))
    return found


def catch_text(kinds, name):
    words = ["catch"] + (list(kinds) if kinds else ["any"])
    return " ".join(words if name is None else words + ["as", name])


def read(text):
    """The program whose text this is."""
    inputs, rows = read_rows(text)
    block, at = block_of(rows, 0, 0)
    return Program(inputs, block)


def block_of(rows, at, level):
    """The block of a level that begins at an index of the rows, and the index behind it."""
    found = []
    while at < len(rows) and rows[at][0] == level and rows[at][1][0] not in TAILS:
        head = rows[at][1]
        inner, at = block_of(rows, at + 1, level + 1)
        parts = {"": inner, "catch": []}
        while at < len(rows) and rows[at][0] == level and rows[at][1][0] in TAILS:
            tail = rows[at][1]
            inner, at = block_of(rows, at + 1, level + 1)
            if tail[0] == "catch":
                parts["catch"].append(tail[1:] + (inner,))
            else:
                parts[tail[0]] = inner
        found.append(statement_of(head, parts))
    return (tuple(found), at)
