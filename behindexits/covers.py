"""Covers: sets of states as tuples of parts. A state of the set is a state of one or more of the parts.

Each part has a state. Nothing here changes what it is passed: the operators of States, which must not, run through
here.
"""

from behindexits.parts import branches, denied, free_zone, free_zones, is_part_inside, open_group, opened, settled
from behindexits.shadows import moved, shadow
from behindexits.zones import literals_of, met, met_all, opposite, spread, whole

# A look at more pairs of parts than this costs more than it saves.
MOST_PAIRS = 100000


class Cover:
    """A cover as a thing of its own, to be told from rows."""

    def __init__(self, parts):
        self.parts = parts


def of_rows(rows, many):
    """The cover of the rows of literals over so many integers."""
    zones = [met_all(whole(many), row) for row in rows]
    return trimmed([(zone, ()) for zone in zones if zone is not None])


def trimmed(parts):
    """The parts without those that are seen to be within others."""
    if len(parts) * len(parts) > MOST_PAIRS:
        return tuple(parts)
    kept = []
    for part in parts:
        if not is_inside_one(part, kept):
            kept = [other for other in kept if not is_part_inside(other, part)] + [part]
    return tuple(kept)


def is_inside_one(part, others):
    for other in others:
        if is_part_inside(part, other):
            return True
    return False


def case_of(part):
    zone, clauses = part
    return (literals_of(zone), clauses)


def either(parts, others):
    if len(parts) * len(others) > MOST_PAIRS:
        return parts + others
    right = widened(others, parts)
    left = [part for part in widened(parts, right) if not is_inside_one(part, right)]
    return tuple(left) + tuple([part for part in right if not is_inside_one(part, left)])


def widened(parts, others):
    """The parts without those of their clauses that keep them from nothing but states of the others."""
    barred = [denied(case_of(other)) for other in others]
    found = []
    for zone, clauses in parts:
        needless = [open_group(zone, clause, False) for clause in barred]
        found.append((zone, tuple([clause for clause in clauses if clause not in needless])))
    return found


def both(parts, others):
    if len(parts) > len(others):
        return both(others, parts)
    clause = ((), tuple([case_of(other) for other in others]))
    found = []
    for zone, clauses in parts:
        found.extend(settled((zone, clauses + (clause,))))
    return trimmed(found)


def less(parts, others):
    """The states of the parts that are not among the others."""
    barred = tuple([denied(case_of(other)) for other in others])
    found = []
    for zone, clauses in parts:
        found.extend(settled((zone, clauses + barred)))
    return tuple(found)


def are_inside(parts, others):
    """Whether each state of the parts is among the others."""
    barred = tuple([denied(case_of(other)) for other in others])
    for zone, clauses in parts:
        if free_zone((zone, clauses + barred)) is not None:
            return False
    return True


def most_apart(parts, i, j):
    """How much the integer at i is above that at j at the most, or None if it has no end. There is a part."""
    most = None
    waiting = list(parts)
    while waiting:
        left = opened(waiting.pop())
        if left is not None:
            apart = left[0][i][j]
            if most is None or apart is None or apart > most:
                if left[1]:
                    waiting.extend(branches(left))
                elif apart is None:
                    return None
                else:
                    most = apart
    return most


def all_hold(parts, literal):
    """Whether the literal holds in all states."""
    for zone, clauses in parts:
        outer = met(zone, opposite(literal))
        if outer is not None and free_zone((outer, clauses)) is not None:
            return False
    return True


def shadow_of(parts, k):
    """The states over the other integers with which some integer at k makes a state of the parts."""
    kept = []
    barred = ()
    for part in parts:
        for zone, clauses in shadow(part, k):
            # Shadows of parts that are far apart often fall on one another.
            if free_zone((zone, clauses + barred)) is not None:
                kept.append((zone, clauses))
                barred = barred + (denied(case_of((zone, clauses))),)
    return trimmed(kept)


def spread_out(parts, olds):
    """The parts with other integers: olds has the index that each was at, or None for one that was not there."""
    places = [(0, 0) for old in olds]
    for new, old in enumerate(olds):
        if old is not None:
            places[old] = (new, 0)
    return tuple([(spread(zone, olds), moved(clauses, places)) for zone, clauses in parts])


def rows_of(parts):
    """Rows of literals with just the states of the parts."""
    return [literals_of(zone) for part in parts for zone in free_zones(part, None)]
