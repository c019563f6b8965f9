"""Parts with their integers at other places, and shadows: what is left of parts when one integer may be any.

Places say where the integers of a part go: places[i] is a tuple (j, offset), and what was at i is now what is at j
plus the offset.

Nothing here changes what it is passed.
"""

from behindexits.parts import settled
from behindexits.zones import literals_of, met_all, without_index


def moved(groups, places):
    """The clauses or cases with their integers at the places."""
    return tuple([moved_group(group, places) for group in groups])


def moved_group(group, places):
    literals, others = group
    return (tuple([moved_literal(literal, places) for literal in literals]), moved(others, places))


def moved_literal(literal, places):
    i, j, number = literal
    left, low = places[i]
    right, high = places[j]
    return (left, right, number + high - low)


def places_without(many, k, stand_in):
    """The places of so many integers if the one at k is taken out, with the place that stands in for it."""
    return [stand_in if i == k else (i - 1 if i > k else i, 0) for i in range(many)]


def shadow(part, k):
    """Settled parts over the other integers: the states with which some integer at k makes a state of the part.

    If there is such an integer, then it can be lowered until a literal just holds that keeps it up, or without end.
    """
    zone, clauses = part
    literals = inner_literals(clauses)
    if not any([k in literal[:2] for literal in literals]):
        return without_integer(zone, clauses, k, (0, 0))
    found = []
    if not [i for i, row in enumerate(zone) if i != k and row[k] is not None]:
        found = without_integer(zone, sunk_clauses(clauses, k), k, (0, 0))
    for i, number in floors(literals_of(zone) + literals, k):
        inner = met_all(zone, [(k, i, number), (i, k, -number)])
        if inner is not None:
            found = found + without_integer(inner, clauses, k, (i - 1 if i > k else i, number))
    return found


def without_integer(zone, clauses, k, stand_in):
    """The part over the other integers, settled: in the clauses, the one at the stand-in's place is put for k."""
    return settled((without_index(zone, k), moved(clauses, places_without(len(zone), k, stand_in))))


def inner_literals(groups):
    """All literals that stand in the clauses or cases, at any depth."""
    found = ()
    for literals, others in groups:
        found = found + literals + inner_literals(others)
    return found


def floors(literals, k):
    """Each (i, number) such that a literal says: what is at k is at least what is at i plus the number."""
    found = {}
    for i, j, number in literals:
        if j == k:
            found[(i, -number)] = True
    return list(found)


def sunk_clauses(clauses, k):
    """The clauses for an integer at k that is below all that could keep it up."""
    found = []
    for literals, cases in clauses:
        if not any([i == k for i, j, number in literals]):
            found.append((tuple([literal for literal in literals if literal[1] != k]), sunk_cases(cases, k)))
    return tuple(found)


def sunk_cases(cases, k):
    found = []
    for literals, clauses in cases:
        if not any([j == k for i, j, number in literals]):
            found.append((tuple([literal for literal in literals if literal[0] != k]), sunk_clauses(clauses, k)))
    return tuple(found)
