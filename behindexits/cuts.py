"""Cuts: what comes of looking at one turn of a loop all turns of which pass.

Facts are as paths have them, but a fact "turns" has one part more: what each name known at its loop stands for there,
as a tuple of pairs (name, value). So facts of turns within turns can be read where the names have no values of their
own.
"""

from behindexits.traces import turn_traces


def moved_value(value, places):
    """A value with its term replaced: places has the values that names stand for; the others stand for themselves."""
    term, number = value
    found, more = places.get(term, (term, 0))
    return (found, number + more)


def moved_facts(program, facts, places):
    """The facts of a path with their terms replaced."""
    found = []
    for fact in facts:
        if fact[0] == "most":
            word, left, right, number = fact
            low, more = places.get(left, (left, 0))
            high, most = places.get(right, (right, 0))
            found.append((word, low, high, number + most - more))
        else:
            word, place, low, high = fact
            known = program.known_before[place]
            stands = tuple([(name, places.get(name, (name, 0))) for name in known])
            found.append((word, place, moved_value(low, places), moved_value(high, places), stands))
    return found


def cut_facts(program, fact, value, mark):
    """The facts of each case of a cut: a fact "turns" is looked at for the turn that is a value.

    The turn is below the first one, or not below the last one, or it passes along a path. The mark stands in front of
    the names that the turn sets.
    """
    word, place, (a, m), (b, k), stands = fact
    term, number = value
    found = [[("most", term, a, m - number - 1)], [("most", b, term, number - k)]]
    for trace in turn_traces(program, place):
        places = dict(stands)
        places[program[place][1]] = value
        for name in trace.names:
            places[name] = (mark + name, 0)
        found.append(moved_facts(program, trace.facts, places))
    return found
