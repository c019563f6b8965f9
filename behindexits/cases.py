"""Cases put together, put into parts, and made smaller. What cases, clauses and parts are is told in parts.py.

Nothing here changes what it is passed.
"""

from behindexits.parts import EMPTY, denied, flat, free_zone, opened
from behindexits.strips import merged
from behindexits.zones import follows, literals_among, literals_of, met_all


def joint(one, other):
    """The case that fits if both cases do."""
    return (one[0] + other[0], one[1] + other[1])


def any_of(cases):
    """The case that fits if one of the cases does: none does if there are none."""
    if len(cases) == 1:
        return cases[0]
    found = merged(cases)
    if len(found) == 1:
        return found[0]
    return EMPTY if EMPTY in found else ((), (flat((), found),))


def options_of(clause):
    """The cases of which one must fit so that the clause does."""
    literals, cases = clause
    return [((literal,), ()) for literal in literals] + list(cases)


def narrowed(part, case):
    """The states of the part that fit the case, opened, or None if there are seen to be none."""
    literals, more = case
    zone = met_all(part[0], literals)
    return None if zone is None else opened((zone, part[1] + more))


def has_some(part, clauses):
    """Whether a state of the part fits the clauses."""
    return free_zone((part[0], part[1] + clauses)) is not None


def case_within(zone, part):
    """The case that a state of the zone fits if it is in the part."""
    inner, clauses = part
    return (tuple([literal for literal in literals_of(inner) if not follows(zone, literal)]), clauses)


def case_among(zone, inner, indexes):
    """The case that a state of the zone fits if, as to the integers at the indexes, it may be one of the inner zone."""
    return (tuple([literal for literal in literals_among(inner, indexes) if not follows(zone, literal)]), ())


def lean(part, given):
    """The part, opened, without what makes no difference for the states that fit the given clauses; there is one."""
    zone, clauses = part
    at = 0
    while at < len(clauses):
        rest = (zone, clauses[:at] + clauses[at + 1:])
        if not can_fit(rest, denied(clauses[at]), given):
            zone, clauses = rest
        else:
            kept = any_of(needed(rest, options_of(clauses[at]), given))
            if kept[0] or len(kept[1]) > 1:
                zone, clauses = narrowed(rest, kept)
                at = 0
            else:
                clauses = clauses[:at] + kept[1] + clauses[at + 1:]
                at += 1
    return (zone, clauses)


def needed(part, options, given):
    """The options but those that fit only such states of the part as fit others, or as do not fit the given clauses."""
    kept = list(options)
    at = 0
    while at < len(kept):
        others = kept[:at] + kept[at + 1:]
        if can_fit(part, kept[at], given + tuple([denied(other) for other in others])):
            at += 1
        else:
            kept = others
    return kept


def can_fit(part, case, given):
    """Whether a state of the part fits the case and the given clauses."""
    inner = narrowed(part, case)
    return inner is not None and has_some(inner, given)
