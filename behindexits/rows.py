"""Rows of texts: the heads of statements, read from words, and which rows are wrong.

A head is a statement without its blocks; ("catch", kinds, name), ("else",) and ("always",) are heads, too.
"""

from behindexits.errors import BadText
from behindexits.forms import MOST_HANDLERS
from behindexits.words import are_names, is_name

MOST_DIGITS = 100
OPENING = ("if", "choose", "for", "try", "else", "catch", "always")
TAILS = ("else", "catch", "always")


def number_in(word):
    """The integer that is written as a word, or None."""
    digits = word[1:] if word[:1] == "-" else word
    if not digits.isdigit() or len(digits) > MOST_DIGITS or (digits[0] == "0" and word != "0"):
        return None
    return int(word)


def value_in(words):
    """The value that is written as these words, or None."""
    if len(words) == 1:
        if is_name(words[0]):
            return (words[0], 0)
        number = number_in(words[0])
        return None if number is None else ("", number)
    if len(words) != 3 or not is_name(words[0]) or words[1] not in ("+", "-"):
        return None
    number = number_in(words[2])
    if number is None or number <= 0:
        return None
    return (words[0], number if words[1] == "+" else -number)


def literal_in(words):
    """The literal that is written as these words, or None."""
    if len(words) < 3 or words[1] != "<=" or not (words[0] == "0" or is_name(words[0])):
        return None
    value = value_in(words[2:])
    return None if value is None else ("" if words[0] == "0" else words[0],) + value


def head_in(words):
    """The head that is written as these words, or None."""
    word = words[0]
    rest = words[1:]
    if word in ("leave", "again", "choose", "try", "else", "always"):
        return None if rest else (word,)
    if word in ("read", "out"):
        return (word, rest[0]) if len(rest) == 1 and is_name(rest[0]) else None
    if word == "if":
        literal = literal_in(rest)
        return None if literal is None else (word, literal)
    if word == "catch":
        return catch_in(rest)
    if word == "ask":
        literal = literal_in(rest[:-2])
        if literal is None or rest[-2] != "or" or not is_name(rest[-1]):
            return None
        return (word, literal, rest[-1])
    return named_in(word, rest) if rest and is_name(rest[0]) else None


def named_in(word, rest):
    """The head of a set, a raise or a for, behind the word of which comes a name, or None."""
    if word == "for":
        if rest[1:2] != ["from"] or "below" not in rest:
            return None
        at = rest.index("below")
        low = value_in(rest[2:at])
        high = value_in(rest[at + 1:])
        return None if low is None or high is None else (word, rest[0], low, high)
    if word == "raise":
        value = value_in(rest[1:])
    elif word == "set" and rest[1:2] == ["="]:
        value = value_in(rest[2:])
    else:
        value = None
    return None if value is None else (word, rest[0], value)


def catch_in(rest):
    name = None
    if len(rest) > 2 and rest[-2] == "as":
        name = rest[-1]
        rest = rest[:-2]
    if not rest or (name is not None and not is_name(name)):
        return None
    if rest == ["any"]:
        return ("catch", (), name)
    return ("catch", tuple(rest), name) if are_names(tuple(rest)) else None


def indent_of(row):
    """How many spaces a row begins with."""
    return len(row) - len(row.lstrip(" "))


class Reader:
    """It goes through the rows behind the first one, and keeps what was open before the next one.

    opened has, by levels, the statements that may go on: a pair of a word and how far it has come.
    """

    def __init__(self, rows):
        self.lines = rows
        self.opened = {}
        self.level = -1
        self.word = "try"
        self.heads = []

    def take(self, at):
        """Take the row at an index; whether it is right."""
        row = self.lines[at]
        spaces = indent_of(row)
        head = head_in(row[spaces:].split(" "))
        if head is None or spaces % 2 == 1:
            return False
        level = spaces // 2
        if level > self.level and (level != self.level + 1 or self.word not in OPENING):
            return False
        for depth in list(self.opened):
            if depth > level:
                del self.opened[depth]
        if head[0] in TAILS:
            if not self.goes_on(head[0], level):
                return False
            if head[0] != "catch" and (at + 1 == len(self.lines) or indent_of(self.lines[at + 1]) != spaces + 2):
                return False
        else:
            self.opened[level] = (head[0], 0)
        self.level = level
        self.word = head[0]
        self.heads.append((level, head))
        return True

    def goes_on(self, tail, level):
        """Whether a statement of the level may have a tail there; then it has."""
        word, come = self.opened.get(level, ("", 0))
        if word == "try":
            # So many catches, then 4 behind an else, and 5 behind an always.
            step = come + 1 if tail == "catch" else 4 if tail == "else" else 5
            if step <= come or (tail == "catch" and step > MOST_HANDLERS):
                return False
        elif word in ("if", "choose", "for") and tail == "else" and come == 0:
            step = 1
        else:
            return False
        self.opened[level] = (word, step)
        return True


def read_rows(text):
    """The inputs and the rows of a text as pairs (level, head)."""
    if not isinstance(text, str) or not all([letter == "\n" or " " <= letter <= "~" for letter in text]):
        raise BadText(0)
    rows = text.split("\n")
    words = rows[0].split(" ")
    if words[0] != "inputs" or not are_names(tuple(words[1:])):
        raise BadText(1)
    reader = Reader(rows)
    for at in range(1, len(rows)):
        if not reader.take(at):
            raise BadText(at + 1)
    return (tuple(words[1:]), reader.heads)


def statement_of(head, parts):
    """The statement with a head and its parts: its first block at "", and what stands behind its tails."""
    word = head[0]
    other = parts.get("else", ())
    if word == "try":
        return (word, parts[""], tuple(parts["catch"]), other, parts.get("always", ()))
    if word in ("if", "choose", "for"):
        return head + (parts[""], other)
    return head
