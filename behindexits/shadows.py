"""Parts with their integers at other places, and shadows: what is left of parts when some integers may be any.

Places say where the integers of a part go: places[i] is a tuple (j, offset), and what was at i is now what is at j
plus the offset.

Nothing here changes what it is passed.
"""

from behindexits.cases import any_of, case_among, case_within, has_some, lean, narrowed, options_of
from behindexits.parts import denied, few_zones, lightest, opened
from behindexits.zones import are_linked, freed, literals_of, met_all

# A split by floors repeats all clauses in each of its parts: it is taken if it is into so many times fewer parts.
A_FLOOR = 4


def moved(groups, places):
    """The clauses or cases with their integers at the places."""
    return tuple([moved_group(group, places) for group in groups])


def moved_group(group, places):
    literals, others = group
    return (tuple([moved_literal(literal, places) for literal in literals]), moved(others, places))


def moved_literal(literal, places):
    i, j, number = literal
    left, low = places[i]
    right, high = places[j]
    return (left, right, number + high - low)


def shadow_case(there, case, hidden):
    """The case that a state of the part there fits if some integers at the hidden indexes make it fit this case.

    The part is about none of these integers. It is None only if no state fits.
    """
    zone, given = there
    part = narrowed((zone, ()), case)
    if part is None:
        return None
    zones = few_zones(part)
    if zones is not None:
        shown = [i for i in range(len(zone)) if i not in hidden]
        return any_of([case_among(zone, inner, shown) for inner in zones]) if zones else None
    if not has_some(part, given):
        return None
    return case_within(zone, shadow(lean(part, given), hidden, given))


def shadow(part, hidden, given):
    """The part, opened, when the integers at the hidden indexes may be any: a part that is about none of them.

    Only the states that fit the given clauses count; there is one, and the clauses are about none of these integers.
    """
    zone, clauses = part
    clauses = replaced(zone, clauses, hidden)
    found = (freed(zone, hidden), tuple([clause for clause in clauses if not is_about(clause, hidden)]))
    for group in groups_of(zone, [clause for clause in clauses if is_about(clause, hidden)], hidden):
        found = narrowed(found, any_of(shadow_cases(found, (zone, group), hidden, given)))
    return found


def shadow_cases(around, part, hidden, given):
    """Cases of which the states of the part around fit one if they are in the shadow of the part."""
    given = given + around[1]
    found = []
    for option in split_up(part, hidden):
        inner = opened(option)
        # What is in the cases before it need not be found again.
        if inner is not None and has_some(inner, given):
            case = case_within(around[0], shadow(inner, hidden, given))
            found.append(case)
            given = given + (denied(case),)
    return found


def is_about(group, indexes):
    """Whether a literal in the case or clause is about an integer at one of the indexes."""
    literals, others = group
    for i, j, number in literals:
        if i in indexes or j in indexes:
            return True
    return any([is_about(other, indexes) for other in others])


def replaced(zone, clauses, hidden):
    """The clauses with others put for the hidden integers that differ from them by fixed numbers."""
    places = [(i, 0) for i in range(len(zone))]
    for k in hidden:
        for i, row in enumerate(zone):
            if i not in hidden and row[k] is not None and zone[k][i] is not None and row[k] + zone[k][i] == 0:
                places[k] = (i, zone[k][i])
    return moved(clauses, places)


def groups_of(zone, clauses, hidden):
    """The clauses in groups: with which hidden integers one group fits means nothing to the others."""
    waiting = list(clauses)
    found = []
    while waiting:
        group = []
        joining = [waiting[0]]
        while joining:
            group.extend(joining)
            waiting = [clause for clause in waiting if clause not in joining]
            reach = [k for k in hidden if is_in_reach(zone, group, hidden, k)]
            joining = [clause for clause in waiting if is_about(clause, reach)]
        found.append(tuple(group))
    return found


def is_in_reach(zone, group, hidden, k):
    """Whether the clauses of a group are about the integer at k, or about one that is linked to it."""
    return any([is_about(((), group), (i,)) and (i == k or are_linked(zone, hidden, i, k)) for i in hidden])


def split_up(part, hidden):
    """Parts that are the part together when the hidden integers may be any, with less to do with these."""
    zone, clauses = part
    literals = literals_of(zone) + inner_literals(clauses)
    best = None
    least = None
    lowest = None
    for k in hidden:
        about = [clause for clause in clauses if is_about(clause, (k,))]
        if about:
            bottoms = floors(literals, k)
            by_floors = A_FLOOR * (1 + len(bottoms))
            many = 1
            for clause in about:
                many = many * len(options_of(clause))
            if least is None or many < least or by_floors < least:
                best = k
                least = by_floors if by_floors < many else many
                lowest = bottoms if by_floors < many else None
    return split_by_options(part, best) if lowest is None else split_by_floors(part, best, lowest)


def split_by_options(part, k):
    """The parts into which it is split by a clause that is about what is at k."""
    zone, clauses = part
    about = [clause for clause in clauses if is_about(clause, (k,))]
    clause = about[lightest(about)]
    rest = tuple([other for other in clauses if other != clause])
    return [(zone, rest + (((), (option,)),)) for option in options_of(clause)]


def split_by_floors(part, k, bottoms):
    """Parts that are not about what is at k, which may be any: it has these floors.

    If there is such an integer, then it can be lowered until a literal just holds that keeps it up, or without end.
    """
    zone, clauses = part
    found = []
    if not [i for i, row in enumerate(zone) if i != k and row[k] is not None]:
        found.append((freed(zone, (k,)), sunk_clauses(clauses, k)))
    for i, number in bottoms:
        inner = met_all(zone, [(k, i, number), (i, k, -number)])
        if inner is not None:
            places = [(i, number) if j == k else (j, 0) for j in range(len(zone))]
            found.append((freed(inner, (k,)), moved(clauses, places)))
    return found


def floors(literals, k):
    """Each (i, number) such that a literal says: what is at k is at least what is at i plus the number."""
    found = {}
    for i, j, number in literals:
        if j == k:
            found[(i, -number)] = True
    return list(found)


def inner_literals(groups):
    """All literals that stand in the clauses or cases, at any depth."""
    found = ()
    for literals, others in groups:
        found = found + literals + inner_literals(others)
    return found


def sunk_clauses(clauses, k):
    """The clauses for an integer at k that is below all that could keep it up."""
    found = []
    for literals, cases in clauses:
        if not any([i == k for i, j, number in literals]):
            found.append((tuple([literal for literal in literals if literal[1] != k]), sunk_cases(cases, k)))
    return tuple(found)


def sunk_cases(cases, k):
    found = []
    for literals, clauses in cases:
        if not any([j == k for i, j, number in literals]):
            found.append((tuple([literal for literal in literals if literal[0] != k]), sunk_clauses(clauses, k)))
    return tuple(found)
