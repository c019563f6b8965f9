"""What counts as an integer, a name, a literal and a value. Everything here may be asked about any object."""

LONGEST = 8
BARRED = {
    "again": True, "always": True, "any": True, "as": True, "ask": True, "below": True, "catch": True, "choose": True,
    "else": True, "end": True, "error": True, "for": True, "from": True, "if": True, "inputs": True, "leave": True,
    "none": True, "or": True, "out": True, "raise": True, "read": True, "return": True, "set": True, "try": True,
    "value": True,
}


def is_number(thing):
    """Whether it is an integer: True and False are none."""
    return isinstance(thing, int) and not isinstance(thing, bool)


def is_word(thing):
    """Whether it is written like a name."""
    if not isinstance(thing, str) or not 1 <= len(thing) <= LONGEST:
        return False
    return thing.isascii() and thing.isalpha() and thing.islower()


def is_name(thing):
    return is_word(thing) and thing not in BARRED


def is_label(thing):
    """Whether it may name an integer of a state: a name, or "value"."""
    return is_word(thing) and (thing == "value" or thing not in BARRED)


def are_different(things):
    """Whether no string stands twice in a tuple of strings."""
    return len(set(things)) == len(things)


def are_names(thing):
    """Whether it is a tuple of different names."""
    return isinstance(thing, tuple) and all([is_name(part) for part in thing]) and are_different(thing)


def are_labels(thing):
    """Whether it is a tuple of different names, "value" allowed."""
    return isinstance(thing, tuple) and all([is_label(part) for part in thing]) and are_different(thing)


def is_literal(thing):
    """Whether it is a literal over any strings."""
    if not isinstance(thing, tuple) or len(thing) != 3:
        return False
    left, right, number = thing
    return isinstance(left, str) and isinstance(right, str) and is_number(number)


def is_term(thing):
    """Whether it is a name or "", which stands for 0."""
    return isinstance(thing, str) and (thing == "" or is_name(thing))


def is_named_literal(thing):
    """Whether it is a literal over names and ""."""
    return is_literal(thing) and is_term(thing[0]) and is_term(thing[1])


def are_numbers(thing, names):
    """Whether it is a dict that has just these names as its keys, and integers as its values."""
    if not isinstance(thing, dict) or len(thing) != len(names):
        return False
    return all([name in thing and is_number(thing[name]) for name in names])


def is_value(thing):
    """Whether it is a term with an integer."""
    return isinstance(thing, tuple) and len(thing) == 2 and is_term(thing[0]) and is_number(thing[1])
