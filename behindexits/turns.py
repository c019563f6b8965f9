"""Which turns of a loop can pass, whatever the values of the names known there are."""

from behindexits.parts import fits
from behindexits.shadows import inner_literals
from behindexits.walks import Walk
from behindexits.ways import known_at


class Turns:
    """The turns of the loop at a place that pass, as a case over the integers of a walk.

    It keeps the indexes of the names known at the loop, that of its variable, and the literals that are about this one.
    """

    def __init__(self, program, place):
        word, name, low, high, body, other = program[place]
        walk = Walk(program)
        self.many = 1 + walk.behind
        self.known = [(known, walk.indexes[known]) for known in known_at(program, place)]
        self.terms = {walk.indexes[term]: term for term in walk.indexes}
        self.x = walk.indexes[name]
        passing = walk.passing(body, walk.start, walk.block_ways(body, place + (0,), walk.start))
        # A clause without literals and cases fits no state.
        self.case = ((), (((), ()),)) if passing is None else passing
        self.bounds = bounds_of(self.case, self.x)

    def numbers_of(self, values):
        """The integers, at their indexes, if the known names have these values."""
        found = [0] * self.many
        for name, index in self.known:
            found[index] = values[name]
        return found

    def stretches(self, values):
        """The stretches (first, behind) of the turns that pass with these values of the known names."""
        return stretches_of(self.case, self.bounds, self.x, self.numbers_of(values))


def bounds_of(case, x):
    """The literals in a case that are about what is at x, each one once."""
    found = {}
    for i, j, number in inner_literals((case,)):
        if i != j and x in (i, j):
            found[(i, j, number)] = True
    return list(found)


def edges_of(bounds, x, numbers):
    """The integers, in ascending order, from each of which on one of the literals holds, or does no more."""
    found = {}
    for i, j, number in bounds:
        found[numbers[j] + number + 1 if i == x else numbers[i] - number] = True
    return sorted(list(found), key=int)


def stretches_of(case, bounds, x, numbers):
    """The stretches of the integers that, put at x among the numbers, fit the case; bounds are its literals about x."""
    edges = edges_of(bounds, x, numbers)
    found = []
    first = None
    inside = fits_with(case, x, numbers, edges[0] - 1 if edges else 0)
    # From one edge to the next one all integers fit, or none does.
    for edge in edges:
        now = fits_with(case, x, numbers, edge)
        if inside and not now:
            found.append((first, edge))
        if not inside:
            first = edge
        inside = now
    return found + [(first, None)] if inside else found


def fits_with(case, x, numbers, number):
    return fits(case, numbers[:x] + [number] + numbers[x + 1:], True)


def turns_of(program, place):
    key = ("passing", place)
    if key not in program.kept:
        program.kept[key] = Turns(program, place)
    return program.kept[key]


def first_stopping(program, place, values, low, high):
    """The first turn from low on and below high that does not pass, or None if all of them pass."""
    if high <= low:
        return None
    for first, behind in turns_of(program, place).stretches(values):
        if (first is None or first <= low) and (behind is None or low < behind):
            return None if behind is None or high <= behind else behind
    return low
