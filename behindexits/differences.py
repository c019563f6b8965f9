"""Literals over any strings: values with which all of them hold, or a ring that shows that there are none."""

from behindexits.errors import NoLiterals
from behindexits.words import is_literal, is_number

MOST_LITERALS = 300


def check_literals(literals):
    if not isinstance(literals, (list, tuple)) or len(literals) > MOST_LITERALS:
        raise NoLiterals(-1)
    for at, literal in enumerate(literals):
        if not is_literal(literal):
            raise NoLiterals(at)


def solved(literals):
    """("values", found) or ("ring", indices): what the literals have."""
    check_literals(literals)
    heights = {term: 0 for left, right, number in literals for term in (left, right)}
    lowered_by = {}
    # With values, no term is lowered along more literals than there are other terms: one pass more lowers nothing.
    for _ in range(len(heights) + 1):
        lowered = lower_once(literals, heights, lowered_by)
        if lowered is None:
            zero = heights.get("", 0)
            return ("values", {term: heights[term] - zero for term in heights if term != ""})
    return ("ring", ring_behind(literals, lowered_by, lowered))


def lower_once(literals, heights, lowered_by):
    """Lower the left term of each literal that does not hold; the last such term, or None."""
    lowered = None
    for at, (left, right, number) in enumerate(literals):
        if heights[left] > heights[right] + number:
            heights[left] = heights[right] + number
            lowered_by[left] = at
            lowered = left
    return lowered


def ring_behind(literals, lowered_by, term):
    """The ring that one meets by going from the term to what it was lowered by, again and again."""
    for _ in range(len(lowered_by)):
        term = literals[lowered_by[term]][1]
    ring = [lowered_by[term]]
    following = literals[ring[0]][1]
    while following != term:
        ring.append(lowered_by[following])
        following = literals[ring[-1]][1]
    return tuple(ring)


def is_ring(literals, indices):
    """Whether an object is a ring of the literals."""
    check_literals(literals)
    return are_indices(indices, len(literals)) and goes_round([literals[index] for index in indices])


def are_indices(indices, many):
    """Whether an object is a tuple of one or more different indices of so many things."""
    if not isinstance(indices, tuple) or not indices:
        return False
    for index in indices:
        if not is_number(index) or not 0 <= index < many:
            return False
    return len(set(indices)) == len(indices)


def goes_round(literals):
    """Whether each literal ends where the next one begins, the last one where the first does, with a sum below 0."""
    total = 0
    last = literals[-1][1]
    for left, right, number in literals:
        if left != last:
            return False
        last = right
        total = total + number
    return total < 0
