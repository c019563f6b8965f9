"""Strips: cases that differ by how far two integers are apart alone, put together where they touch.

A strip is a tuple (low, high): the difference is from low to high, and None is no end. Nothing here changes what it is
passed.
"""

from behindexits.zones import greater


def merged(cases):
    """Cases of which one fits just if one of these does: fewer ones, where that is seen at once."""
    for i, j in shared_pairs(cases):
        cases = merged_along(cases, i, j)
    return cases


def shared_pairs(cases):
    """The pairs (i, j) with i < j that two or more cases without clauses have literals about."""
    found = {}
    for literals, clauses in cases:
        own = {} if clauses else {(i, j) if i < j else (j, i): True for i, j, number in literals if i != j}
        for pair in own:
            found[pair] = pair in found
    return [pair for pair in found if found[pair]]


def merged_along(cases, i, j):
    """The same where only the literals about what is at i and at j differ."""
    found = []
    strips = {}
    for literals, clauses in cases:
        if clauses:
            found.append((literals, clauses))
        else:
            rest = tuple([literal for literal in literals if not is_between(literal, i, j)])
            strips[rest] = strips.get(rest, ()) + (strip_of(literals, i, j),)
    for rest in strips:
        found.extend([(rest + bounds(strip, i, j), ()) for strip in united(strips[rest])])
    return found


def is_between(literal, i, j):
    return literal[:2] == (i, j) or literal[:2] == (j, i)


def strip_of(literals, i, j):
    """How far what is at i may be above what is at j."""
    low = None
    high = None
    for left, right, number in literals:
        if (left, right) == (i, j) and (high is None or number < high):
            high = number
        if (left, right) == (j, i) and (low is None or -number > low):
            low = -number
    return (low, high)


def bounds(strip, i, j):
    """The literals that say that what is at i is so far above what is at j."""
    low, high = strip
    found = () if low is None else ((j, i, -low),)
    return found if high is None else found + ((i, j, high),)


def united(strips):
    """Strips that are these together, none of which touches another one, in ascending order."""
    highs = {}
    for low, high in strips:
        if low is None or high is None or low <= high:
            highs[low] = greater(highs[low], high) if low in highs else high
    lows = sorted([low for low in highs if low is not None], key=int)
    found = []
    for low in [None] + lows if None in highs else lows:
        if found and (found[-1][1] is None or low <= found[-1][1] + 1):
            first, last = found.pop()
            found.append((first, greater(last, highs[low])))
        else:
            found.append((low, highs[low]))
    return found
