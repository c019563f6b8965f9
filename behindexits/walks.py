"""Walks: what runs of a program do, as cases over the integers of all its names.

On each way through a program a name is set at most once, but for the turns of loops that have ended. So one integer
stands for each name, and what a statement does is a case over these: it fits if some run of the statement goes from the
integers of the names known before it to those of the names that it sets. The integers of turns that have ended are
taken out by shadows.

Such cases are kept in dicts, by ways: ("end",), ("leave",), ("again",), ("out", out), HERE, or ("raise", kind, i,
number), where the value of the error is what is at the index i plus the number. A way that is not there is never taken.
All this counts only for the states "there": a part, with which the statement or the block is come to.
"""

from behindexits.cases import any_of, joint, narrowed
from behindexits.flows import AGAIN, END, LEAVE, first_fit
from behindexits.forms import blocks_of, settings_of
from behindexits.parts import EMPTY, denied, open_group, size_of
from behindexits.shadows import moved, shadow_case
from behindexits.zones import opposite, whole

# A case of so many literals need not be made leaner.
SMALL = 8
# The way of what comes to the statement at the target.
HERE = ("here",)


def names_set(block):
    """The names that are set in a block."""
    found = {}
    for statement in block:
        if statement[0] in ("set", "read"):
            found[statement[1]] = True
        else:
            for name, path in settings_of(statement, ()):
                found[name] = True
            for inner in blocks_of(statement):
                for name in names_set(inner):
                    found[name] = True
    return list(found)


def equality(i, point):
    """The case that what is at i is a point: what is at an index, plus a number."""
    j, number = point
    return (((i, j, number), (j, i, -number)), ())


def among(x, low, high):
    """The case that what is at x is at least one point, and below another one."""
    i, m = low
    j, k = high
    return (((i, x, -m), (x, j, k - 1)), ())


def add(found, way, case):
    found.setdefault(way, []).append(case)


def joined(there, found):
    """The ways for which there are lists of cases, each with the case that one of these fits."""
    ways = {}
    for way in found:
        case = any_of(found[way])
        if case != EMPTY:
            case = open_group(there[0], case, True)
        if case is not None:
            ways[way] = case
    return ways


class Walk:
    """A walk through a program; its target is the place of a statement, or None."""

    def __init__(self, program, target):
        self.block = program.block
        self.target = target
        names = [""] + list(program.inputs + program.settings) + ["value"]
        self.indexes = {name: i for i, name in enumerate(names)}
        # What is at this index is the turn behind those of a loop that are looked at.
        self.behind = len(names)
        self.start = (whole(self.behind), ())

    def ways(self):
        """The ways out of the program."""
        return self.block_ways(self.block, (), self.start)

    def point(self, value):
        term, number = value
        return (self.indexes[term], number)

    def guards(self, literal):
        """The cases that a literal of the program holds and that it does not hold."""
        left, right, number = literal
        found = (self.indexes[left], self.indexes[right], number)
        return [((found,), ()), ((opposite(found),), ())]

    def block_ways(self, block, before, there):
        """The ways of a block, the places in which begin with before."""
        if not block:
            return {END: EMPTY}
        found = {}
        done = EMPTY
        now = there
        for index, statement in enumerate(block):
            place = before + (index,)
            if place == self.target:
                add(found, HERE, done)
            ways = self.statement_ways(statement, place, now)
            for way in ways:
                if way != END:
                    add(found, way, joint(done, ways[way]))
            now = narrowed(now, ways[END]) if END in ways else None
            if now is None:
                return joined(there, found)
            done = joint(done, ways[END])
        add(found, END, done)
        return joined(there, found)

    def statement_ways(self, statement, place, there):
        word = statement[0]
        if word == "if":
            return self.split_ways(statement, place, there, self.guards(statement[1]))
        if word == "choose":
            return self.split_ways(statement, place, there, [EMPTY, EMPTY])
        if word == "for":
            return self.loop_ways(statement, place, there)
        if word == "try":
            return self.try_ways(statement, place, there)
        if word == "set":
            return {END: equality(self.indexes[statement[1]], self.point(statement[2]))}
        if word == "read":
            return {END: EMPTY}
        found = {}
        if word == "ask":
            holding, failing = self.guards(statement[1])
            found[END] = [holding]
            found[("raise", statement[2], 0, 0)] = [failing]
        elif word == "raise":
            found[("raise", statement[1]) + self.point(statement[2])] = [EMPTY]
        else:
            # An out, a leave and an again are written like their ways.
            return {statement: EMPTY}
        return joined(there, found)

    def split_ways(self, statement, place, there, guards):
        """The ways of a statement that begins that of its blocks whose guard fits."""
        found = {}
        for number, guard in enumerate(guards):
            self.add_block(found, statement, place, number, there, guard)
        return joined(there, found)

    def add_block(self, found, statement, place, number, there, entry):
        """Add the ways of a block of a statement that is begun if the entry, a case, fits."""
        inner = narrowed(there, entry)
        if inner is not None:
            ways = self.block_ways(blocks_of(statement)[number], place + (number,), inner)
            for way in ways:
                add(found, way, joint(entry, ways[way]))

    def loop_ways(self, statement, place, there):
        word, name, low, high, body, other = statement
        x = self.indexes[name]
        turn = among(x, self.point(low), self.point(high))
        inner = narrowed(there, turn)
        ways = {} if inner is None else self.block_ways(body, place + (0,), inner)
        stopping = self.stopping(statement, there, self.passing(body, inner, ways))
        before = joint(turn, self.all_pass(stopping, (x, 0)))
        found = {}
        for way in ways:
            if way == LEAVE:
                add(found, END, joint(before, ways[way]))
            elif way not in (END, AGAIN):
                add(found, way, joint(before, ways[way]))
        self.add_block(found, statement, place, 1, there, self.all_pass(stopping, self.point(high)))
        return joined(there, found)

    def passing(self, body, inner, ways):
        """The case that a turn can pass, if the body of the loop has these ways in the states inner; None: none can."""
        if END not in ways and AGAIN not in ways:
            return None
        case = any_of([ways[way] for way in (END, AGAIN) if way in ways])
        hidden = [self.indexes[name] for name in names_set(body)]
        return shadow_case(inner, case, hidden) if hidden or size_of((case,)) > SMALL else case

    def stopping(self, statement, there, passing):
        """The case that one of the turns of a loop from the first one up to self.behind cannot pass; None: all can.

        It counts only if self.behind is at most the loop's high value.
        """
        word, name, low, high, body, other = statement
        x = self.indexes[name]
        j, k = self.point(high)
        case = among(x, self.point(low), (self.behind, 0))
        if passing is not None:
            case = joint(case, ((), (denied(passing),)))
        return shadow_case(narrowed(there, (((self.behind, j, k),), ())), case, [x])

    def all_pass(self, stopping, point):
        """The case that all turns of a loop pass that are below a point."""
        if stopping is None:
            return EMPTY
        places = [point if i == self.behind else (i, 0) for i in range(1 + self.behind)]
        return ((), moved((denied(stopping),), places))

    def try_ways(self, statement, place, there):
        word, block, handlers, other, always = statement
        ways = self.block_ways(block, place + (0,), there)
        found = {}
        entries = {}
        for way in ways:
            at = first_fit(handlers, way[1]) if way[0] == "raise" else None
            if at is not None:
                name = handlers[at][1]
                named = EMPTY if name is None else equality(self.indexes[name], way[2:])
                add(entries, 1 + at, joint(ways[way], named))
            elif way == END:
                add(entries, 1 + len(handlers), ways[way])
            else:
                add(found, way, ways[way])
        for number in entries:
            self.add_block(found, statement, place, number, there, any_of(entries[number]))
        return self.always_ways(statement, place, there, joined(there, found))

    def always_ways(self, statement, place, there, ways):
        """The ways of a try, of the parts of which before its always part there are these ways."""
        found = {}
        for way in ways:
            past = {}
            if way == HERE:
                add(past, END, ways[way])
            else:
                self.add_block(past, statement, place, 2 + len(statement[2]), there, ways[way])
            for last in past:
                for case in past[last]:
                    add(found, way if last == END else last, case)
        return joined(there, found)
