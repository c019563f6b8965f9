"""Sets of states: which integers some names can have together."""

from behindexits.covers import (
    Cover, all_hold, are_inside, both, either, less, most_apart, of_rows, rows_of, shadow_of, spread_out,
)
from behindexits.errors import BadStates, NoName, NoStates, Unlike
from behindexits.parts import free_zone, has_state
from behindexits.terms import check_literal, check_term, check_terms
from behindexits.words import are_labels, are_numbers, is_label, is_literal
from behindexits.zones import point_of


def are_rows(rows, names):
    """Whether it is a tuple of rows over the names."""
    if not isinstance(rows, tuple):
        return False
    for row in rows:
        if not isinstance(row, tuple) or not all([is_over(literal, names) for literal in row]):
            return False
    return True


def is_over(literal, names):
    """Whether it is a literal over the names and ""."""
    if not is_literal(literal):
        return False
    return all([term == "" or term in names for term in literal[:2]])


def check_alike(one, other):
    if one.names != other.names:
        raise Unlike()


class States:
    """The states with which all literals of some row hold. A state gives an integer to each of the names."""

    def __init__(self, names, rows):
        """The rows may also be a Cover: the operators pass on what they have found as it is."""
        if not are_labels(names):
            raise BadStates("names")
        self.names = tuple(sorted(names, key=str))
        if isinstance(rows, Cover):
            self._cover = rows
        elif are_rows(rows, names):
            self._cover = self._covered(rows)
        else:
            raise BadStates("rows")

    def _covered(self, rows):
        found = [[(self._index(left), self._index(right), number) for left, right, number in row] for row in rows]
        return Cover(of_rows(found, len(self.names)))

    def _index(self, term):
        return 0 if term == "" else 1 + self.names.index(term)

    @property
    def rows(self):
        terms = ("",) + self.names
        found = rows_of(self._cover.parts)
        return tuple([tuple([(terms[i], terms[j], number) for i, j, number in row]) for row in found])

    def __contains__(self, state):
        if not are_numbers(state, self.names):
            return False
        numbers = [0] + [state[name] for name in self.names]
        return any([has_state(part, numbers) for part in self._cover.parts])

    def __eq__(self, other):
        return isinstance(other, States) and self.names == other.names and self <= other and other <= self

    def __le__(self, other):
        if not isinstance(other, States):
            return NotImplemented
        check_alike(self, other)
        return are_inside(self._cover.parts, other._cover.parts)

    def __and__(self, other):
        if not isinstance(other, States):
            return NotImplemented
        check_alike(self, other)
        return States(self.names, Cover(both(self._cover.parts, other._cover.parts)))

    def __or__(self, other):
        if not isinstance(other, States):
            return NotImplemented
        check_alike(self, other)
        return States(self.names, Cover(either(self._cover.parts, other._cover.parts)))

    def __sub__(self, other):
        if not isinstance(other, States):
            return NotImplemented
        check_alike(self, other)
        return States(self.names, Cover(less(self._cover.parts, other._cover.parts)))

    def is_empty(self):
        return not self._cover.parts

    def some(self):
        """A state of the set, or None if there is none."""
        if self.is_empty():
            return None
        numbers = point_of(free_zone(self._cover.parts[0]))
        return {name: numbers[1 + at] for at, name in enumerate(self.names)}

    def holds(self, literal):
        """Whether the literal holds in all states."""
        check_literal(literal)
        check_terms(literal, self.names)
        left, right, number = literal
        return all_hold(self._cover.parts, (self._index(left), self._index(right), number))

    def bound(self, left, right):
        """The least number such that left <= right + number in all states, or None if there is none."""
        check_term(left, self.names)
        check_term(right, self.names)
        if self.is_empty():
            raise NoStates()
        return most_apart(self._cover.parts, self._index(left), self._index(right))

    def without(self, name):
        """The states over the other names to which some integer can be given to the name."""
        if not isinstance(name, str) or name not in self.names:
            raise NoName(name)
        rest = tuple([other for other in self.names if other != name])
        return States(rest, Cover(shadow_of(self._cover.parts, self._index(name))))

    def renamed(self, old, new):
        """The set with another name in the place of an old one."""
        if not isinstance(old, str) or old not in self.names:
            raise NoName(old)
        if not is_label(new) or new in self.names:
            raise NoName(new)
        return self._spread({new if name == old else name: name for name in self.names})

    def over(self, more):
        """The set with further names, which have any integers."""
        if not are_labels(more):
            raise BadStates("names")
        return self._spread({name: name for name in self.names + more})

    def _spread(self, sources):
        """The set over new names: sources has what each was called, or any other name if it was not there."""
        names = tuple(sorted(list(sources), key=str))
        olds = [0]
        for name in names:
            source = sources[name]
            olds.append(self._index(source) if source in self.names else None)
        return States(names, Cover(spread_out(self._cover.parts, olds)))
