"""Parts: zones with clauses.

A part is a tuple (zone, clauses): the states of the zone that fit all the clauses. A clause is a tuple (literals,
cases): a state fits it if one of the literals holds with it or it fits one of the cases. A case is a tuple (literals,
clauses): a state fits it if all the literals hold with it and it fits all the clauses. Literals are as zones have them.

So what is left of a part without another one is the part with one clause more. Clauses are kept as they are for as
long as they can, because a zone without few others can need very many zones.

Nothing here changes what it is passed: the operators of States, which must not, run through here.
"""

from behindexits.zones import has_point, is_inside, met, met_all, opposite

EMPTY = ((), ())
# What a case without literals weighs.
FULL = 1000000000000
# A part with more literals than LARGE is written as zones if that is not longer, at so many literals A_ZONE, and one
# whose clauses and cases are nested more than DEEP always.
LARGE = 1000
A_ZONE = 10
DEEP = 60
# So many looks at a part cost little against what is found if they are enough.
A_FEW = 24


def denied(group):
    """The clause that a state fits if it does not fit the case, and the case if it does not fit the clause."""
    literals, others = group
    return (tuple([opposite(literal) for literal in literals]), tuple([denied(other) for other in others]))


def open_group(zone, group, is_case):
    """The case or clause without what is settled by the zone.

    It is None if no state of the zone is seen to fit the case, or if all are seen to fit the clause. It is EMPTY if all
    are seen to fit the case, or none to fit the clause. A group within it that is of one literal or one group is taken
    into it.
    """
    literals, others = group
    plain = []
    for literal in literals:
        i, j, number = literal
        there = zone[i][j]
        if there is not None and there <= number:
            if not is_case:
                return None
        else:
            back = zone[j][i]
            if back is None or back + number >= 0:
                plain.append(literal)
            elif is_case:
                return None
    rest = []
    for other in others:
        left = open_group(zone, other, not is_case)
        if left is not None:
            inner, groups = left
            if not groups and len(inner) < 2:
                if not inner:
                    return None
                plain.append(inner[0])
            elif not inner and len(groups) == 1:
                plain.extend(groups[0][0])
                rest.extend(groups[0][1])
            else:
                rest.append(left)
    return (tuple(plain), tuple(rest))


def flat(literals, groups):
    """The group of these, with each group that is of one literal or one group taken into it."""
    plain = list(literals)
    rest = []
    for group in groups:
        inner, others = group
        if len(inner) == 1 and not others:
            plain.append(inner[0])
        elif not inner and len(others) == 1:
            plain.extend(others[0][0])
            rest.extend(others[0][1])
        else:
            rest.append(group)
    return (tuple(plain), tuple(rest))


def opened(part):
    """The part with as much in its zone as is seen to go there, or None if it is seen to have no state."""
    zone, clauses = part
    while clauses and zone is not None:
        left = open_group(zone, ((), clauses), True)
        if left is None:
            return None
        literals, clauses = left
        if not literals:
            return (zone, clauses)
        zone = met_all(zone, literals)
    return None if zone is None else (zone, ())


def weight(clause):
    """Little if few states fit the clause: each literal is taken to hold with half of them."""
    literals, cases = clause
    return len(literals) * (FULL >> 1) + sum([FULL >> len(inner) for inner, clauses in cases])


def lightest(clauses):
    at = 0
    least = weight(clauses[0])
    for index, clause in enumerate(clauses):
        now = weight(clause)
        if now < least:
            at = index
            least = now
    return at


def branches(part):
    """Parts that have no state in common and are the opened part together: a clause is split into what it is of."""
    zone, clauses = part
    at = lightest(clauses)
    rest = clauses[:at] + clauses[at + 1:]
    literals, cases = clauses[at]
    found = []
    for literal in literals:
        found.append((met(zone, literal), rest))
        zone = met(zone, opposite(literal))
        if zone is None:
            return found
    for case in cases:
        found.append((met_all(zone, case[0]), rest + case[1]))
        rest = rest + (denied(case),)
    return found


def free_zone(part):
    """A zone within the part, or None if the part has no state."""
    waiting = [part]
    while waiting:
        left = opened(waiting.pop())
        if left is not None:
            if not left[1]:
                return left[0]
            waiting.extend(branches(left))
    return None


def free_zones(part, looks):
    """Zones that have no state in common and are the part together, or None if it takes more looks (None: any)."""
    found = []
    waiting = [part]
    looked = 0
    while waiting:
        if looked == looks:
            return None
        looked += 1
        left = opened(waiting.pop())
        if left is not None:
            if left[1]:
                waiting.extend(branches(left))
            else:
                found.append(left[0])
    return found


def few_zones(part):
    """A few zones, which may have states in common, that are the part together; None if it takes more than a few looks.

    As the clauses are split without their opposites, these zones are less many and wider than those of free_zones.
    """
    found = []
    waiting = [part]
    looks = 0
    while waiting:
        if looks == A_FEW:
            return None
        looks += 1
        left = opened(waiting.pop())
        if left is not None:
            zone, clauses = left
            if clauses:
                waiting.extend(options_within(zone, clauses))
            elif not any([is_inside(zone, other) for other in found]):
                found.append(zone)
    return found


def options_within(zone, clauses):
    """Parts that are the zone with the clauses together: one of the clauses is split into what it is of."""
    at = lightest(clauses)
    rest = clauses[:at] + clauses[at + 1:]
    literals, cases = clauses[at]
    found = [(met(zone, literal), rest) for literal in literals]
    return found + [(met_all(zone, inner), rest + others) for inner, others in cases]


def settled(part):
    """Parts that each have a state and are the part together, in a form that is neither nested nor long in vain."""
    left = opened(part)
    if left is None or free_zone(left) is None:
        return []
    zones = None
    if depth_of(left[1]) > DEEP:
        zones = free_zones(left, None)
    elif size_of(left[1]) > LARGE:
        zones = free_zones(left, size_of(left[1]) // A_ZONE)
    return [left] if zones is None else [(zone, ()) for zone in zones]


def size_of(groups):
    """The number of literals in them."""
    return sum([len(literals) + size_of(others) for literals, others in groups])


def depth_of(groups):
    deepest = 0
    for literals, others in groups:
        depth = 1 + depth_of(others)
        if depth > deepest:
            deepest = depth
    return deepest


def is_part_inside(part, other):
    """Whether the one part is seen at once to be within the other one; False may be wrong."""
    zone, clauses = part
    wide, more = other
    if not is_inside(zone, wide):
        return False
    for clause in more:
        left = open_group(zone, clause, False)
        if left is not None and left not in clauses:
            return False
    return True


def has_state(part, numbers):
    """Whether the integers, the 0 at their front, are a state of the part."""
    zone, clauses = part
    return has_point(zone, numbers) and fits(((), clauses), numbers, True)


def fits(group, numbers, is_case):
    """Whether the integers fit the case or clause."""
    literals, others = group
    for i, j, number in literals:
        if (numbers[i] <= numbers[j] + number) != is_case:
            return not is_case
    for other in others:
        if fits(other, numbers, not is_case) != is_case:
            return not is_case
    return is_case
