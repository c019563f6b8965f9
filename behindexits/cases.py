"""Cases put together, put into parts, and made smaller. What cases, clauses and parts are is told in parts.py.

Nothing here changes what it is passed.
"""

from behindexits.parts import EMPTY, denied, free_zone, opened
from behindexits.zones import follows, literals_of


def joint(one, other):
    """The case that fits if both cases do."""
    return (one[0] + other[0], one[1] + other[1])


def any_of(cases):
    """The case that fits if one of the cases does; there is one or more."""
    if len(cases) == 1:
        return cases[0]
    literals = []
    rest = []
    for case in cases:
        inner, clauses = case
        if case == EMPTY:
            return EMPTY
        if len(inner) == 1 and not clauses:
            literals.append(inner[0])
        elif not inner and len(clauses) == 1:
            literals.extend(clauses[0][0])
            rest.extend(clauses[0][1])
        else:
            rest.append(case)
    return ((), ((tuple(literals), tuple(rest)),))


def options_of(clause):
    """The cases of which one must fit so that the clause does."""
    literals, cases = clause
    return [((literal,), ()) for literal in literals] + list(cases)


def narrowed(part, case):
    """The states of the part that fit the case, opened, or None if there are seen to be none."""
    zone, clauses = part
    return opened((zone, clauses + (((), (case,)),)))


def has_some(part, clauses):
    """Whether a state of the part fits the clauses."""
    return free_zone((part[0], part[1] + clauses)) is not None


def case_within(zone, part):
    """The case that a state of the zone fits if it is in the part."""
    inner, clauses = part
    return (tuple([literal for literal in literals_of(inner) if not follows(zone, literal)]), clauses)


def lean(part, given):
    """The part, opened, without what makes no difference for the states that fit the given clauses; there is one."""
    zone, clauses = part
    at = 0
    while at < len(clauses):
        rest = (zone, clauses[:at] + clauses[at + 1:])
        if not can_fit(rest, denied(clauses[at]), given):
            zone, clauses = rest
        else:
            kept = [case for case in options_of(clauses[at]) if can_fit(rest, case, given)]
            if len(kept) == 1:
                zone, clauses = narrowed(rest, kept[0])
                at = 0
            else:
                clauses = clauses[:at] + any_of(kept)[1] + clauses[at + 1:]
                at += 1
    return (zone, clauses)


def can_fit(part, case, given):
    """Whether a state of the part fits the case and the given clauses."""
    inner = narrowed(part, case)
    return inner is not None and has_some(inner, given)
