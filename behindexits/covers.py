"""Covers: sets of states as tuples of parts. A state of the set is a state of one or more of the parts.

Each part has a state. Nothing here changes what it is passed: the operators of States, which must not, run through
here.
"""

from behindexits.cases import has_some
from behindexits.parts import branches, denied, free_zone, free_zones, is_part_inside, open_group, opened, settled
from behindexits.shadows import moved, shadow
from behindexits.zones import around, is_inside, literals_of, met, met_all, opposite, spread, whole

# A look at more pairs of parts than this costs more than it saves.
MOST_PAIRS = 100000


class Cover:
    """A cover as a thing of its own, to be told from rows."""

    def __init__(self, parts):
        self.parts = parts


def of_rows(rows, many):
    """The cover of the rows of literals over so many integers."""
    zones = [met_all(whole(many), row) for row in rows]
    return trimmed([(zone, ()) for zone in zones if zone is not None])


def trimmed(parts):
    """The parts without those that are seen to be within others."""
    if len(parts) * len(parts) > MOST_PAIRS:
        return tuple(parts)
    kept = []
    for part in parts:
        if not is_inside_one(part, kept):
            kept = [other for other in kept if not is_part_inside(other, part)] + [part]
    return tuple(kept)


def is_inside_one(part, others):
    for other in others:
        if is_part_inside(part, other):
            return True
    return False


def case_of(part):
    zone, clauses = part
    return (literals_of(zone), clauses)


def either(parts, others):
    if len(parts) * len(others) > MOST_PAIRS:
        return parts + others
    right = widened(others, parts)
    left = [part for part in widened(parts, right) if not is_inside_one(part, right)]
    return tuple(left) + tuple([part for part in right if not is_inside_one(part, left)])


def widened(parts, others):
    """The parts without those of their clauses that keep them from nothing but states of the others."""
    barred = [denied(case_of(other)) for other in others]
    found = []
    for zone, clauses in parts:
        needless = [open_group(zone, clause, False) for clause in barred]
        found.append((zone, tuple([clause for clause in clauses if clause not in needless])))
    return found


def both(parts, others):
    if len(parts) > len(others):
        return both(others, parts)
    clause = ((), tuple([case_of(other) for other in others]))
    found = []
    for zone, clauses in parts:
        found.extend(settled((zone, clauses + (clause,))))
    return trimmed(found)


def less(parts, others):
    """The states of the parts that are not among the others."""
    barred = tuple([denied(case_of(other)) for other in others])
    found = []
    for zone, clauses in parts:
        found.extend(settled((zone, clauses + barred)))
    return tuple(found)


def are_inside(parts, others):
    """Whether each state of the parts is among the others."""
    if len(parts) * len(others) <= MOST_PAIRS:
        parts = [part for part in parts if not is_inside_one(part, others)]
    if not parts:
        return True
    barred = tuple([denied(case_of(other)) for other in others])
    for zone, clauses in parts:
        if free_zone((zone, clauses + barred)) is not None:
            return False
    return True


def most_apart(parts, i, j):
    """How much the integer at i is above that at j at the most, or None if it has no end. There is a part."""
    most = None
    waiting = list(parts)
    while waiting:
        left = opened(waiting.pop())
        if left is not None:
            apart = left[0][i][j]
            if most is None or apart is None or apart > most:
                if left[1]:
                    waiting.extend(branches(left))
                elif apart is None:
                    return None
                else:
                    most = apart
    return most


def hull(parts):
    """The least zone around the parts; there is one."""
    found = None
    waiting = list(parts)
    while waiting:
        left = opened(waiting.pop())
        if left is not None and (found is None or not is_inside(left[0], found)):
            if left[1]:
                waiting.extend(branches(left))
            else:
                found = left[0] if found is None else around(found, left[0])
    return found


def all_hold(parts, literal):
    """Whether the literal holds in all states."""
    for zone, clauses in parts:
        outer = met(zone, opposite(literal))
        if outer is not None and free_zone((outer, clauses)) is not None:
            return False
    return True


def shadow_of(parts, k):
    """The states over the other integers with which some integer at k makes a state of the parts."""
    kept = []
    barred = ()
    for zone, clauses in parts:
        # Shadows of parts that are far apart often fall on one another.
        if has_some((zone, clauses), barred):
            seen = shadow((zone, clauses), (k,), barred)
            barred = barred + (denied(case_of(seen)),)
            kept.extend(spread_out(settled(seen), [i for i in range(len(zone)) if i != k]))
    return trimmed(kept)


def spread_out(parts, olds):
    """The parts over other integers: olds has the index that each was at, or None for one that was not there.

    The parts are about no integer that is left out.
    """
    found = []
    for zone, clauses in parts:
        places = [(0, 0) for row in zone]
        for new, old in enumerate(olds):
            if old is not None:
                places[old] = (new, 0)
        found.append((spread(zone, olds), moved(clauses, places)))
    return tuple(found)


def rows_of(parts):
    """Rows of literals with just the states of the parts."""
    return [literals_of(zone) for part in parts for zone in free_zones(part, None)]
