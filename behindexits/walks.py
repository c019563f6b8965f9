"""Walks: what runs of a program do, as cases over the integers of all its names.

On each way through a program a name is set at most once, but for the turns of loops that have ended. So one integer
stands for each name, and what a statement does is a case over these: it fits if some run of the statement goes from the
integers of the names known before it to those of the names that it sets. The integers of turns that have ended are
taken out by shadows.

Such cases are kept in dicts, by ways: ("end",), ("leave",), ("again",), ("out", out), HERE, or ("raise", kind, i,
number), where the value of the error is what is at the index i plus the number. A way that is not there is never taken.
All this counts only for the states "there": a part, with which the statement or the block is come to.

A walk may look at a test, which is met when its place is come to and its literal does not hold. Then there is also a
way (MET, ..) for each way that is taken by a run that has met it, maybe in a turn that has ended; the way itself has
these runs and all others.
"""

from behindexits.cases import any_of, joint, narrowed
from behindexits.flows import AGAIN, END, LEAVE, first_fit
from behindexits.forms import blocks_of, settings_of
from behindexits.parts import EMPTY, denied, open_group, size_of
from behindexits.shadows import moved_group, shadow_case
from behindexits.zones import opposite, whole

# A case of so many literals need not be made leaner.
SMALL = 8
# The way of what comes to the statement at the target. In a full walk the place of an ask behind it is the way of what
# fails there, and the place of a statement with the number of a block in it is the way of what begins this block.
HERE = ("here",)
MET = "met"
MET_END = ("met", "end")


def names_set(block):
    """The names that are set in a block."""
    found = {}
    for statement in block:
        if statement[0] in ("set", "read"):
            found[statement[1]] = True
        else:
            for name, path in settings_of(statement, ()):
                found[name] = True
            for inner in blocks_of(statement):
                for name in names_set(inner):
                    found[name] = True
    return list(found)


def equality(i, point):
    """The case that what is at i is a point: what is at an index, plus a number."""
    j, number = point
    return (((i, j, number), (j, i, -number)), ())


def among(x, low, high):
    """The case that what is at x is at least one point, and below another one."""
    i, m = low
    j, k = high
    return (((i, x, -m), (x, j, k - 1)), ())


def add(found, way, case):
    found.setdefault(way, []).append(case)


def joined(there, found):
    """The ways for which there are lists of cases, each with the case that one of these fits."""
    ways = {}
    for way in found:
        case = any_of(found[way])
        if case != EMPTY:
            case = open_group(there[0], case, True)
        if case is not None:
            ways[way] = case
    return ways


def plain_way(way):
    return way[1:] if way[0] == MET else way


def met_way(way):
    return way if way[0] == MET else (MET,) + way


def past_always(way, last):
    """The way out of a try whose parts were left by one way, and its always part by the last one."""
    if last == END:
        return way
    return met_way(way) if last == MET_END else last


class Walk:
    """A walk through a program. Its target is the place of a statement, of the test if there is a literal, or None."""

    def __init__(self, program, target=None, literal=None, full=False):
        self.block = program.block
        self.target = target
        self.full = full
        names = [""] + list(program.inputs + program.settings) + ["value"]
        self.indexes = {name: i for i, name in enumerate(names)}
        self.failing = None if literal is None else self.guards(literal)[1]
        # What is at this index is the turn behind those of a loop that are looked at.
        self.behind = len(names)
        self.start = (whole(self.behind), ())

    def ways(self):
        """The ways out of the program."""
        return self.block_ways(self.block, (), self.start)

    def point(self, value):
        term, number = value
        return (self.indexes[term], number)

    def guards(self, literal):
        """The cases that a literal of the program holds and that it does not hold."""
        left, right, number = literal
        found = (self.indexes[left], self.indexes[right], number)
        return [((found,), ()), ((opposite(found),), ())]

    def block_ways(self, block, before, there):
        """The ways of a block, the places in which begin with before."""
        if not block and not self.full:
            return {END: EMPTY}
        found = {HERE + before: [EMPTY]} if self.full else {}
        done = EMPTY
        met = None
        now = there
        for index, statement in enumerate(block):
            place = before + (index,)
            if place == self.target:
                if self.failing is None:
                    add(found, HERE, done)
                else:
                    met = joint(done, self.failing) if met is None else any_of([met, joint(done, self.failing)])
            ways = self.statement_ways(statement, place, now)
            self.add_outs(found, ways, done, met)
            if END not in ways:
                return joined(there, found)
            met = self.met_behind(ways, done, met)
            now = narrowed(now, ways[END])
            if now is None:
                return joined(there, found)
            done = joint(done, ways[END])
        add(found, END, done)
        if met is not None:
            add(found, MET_END, met)
        return joined(there, found)

    def add_outs(self, found, ways, done, met):
        """Add the ways, but the end, of a statement that is come to if a case fits; met is that with the test met."""
        for way in ways:
            if way not in (END, MET_END):
                add(found, way, joint(done, ways[way]))
                if met is not None and way[0] != MET:
                    add(found, met_way(way), joint(met, ways[way]))

    def met_behind(self, ways, done, met):
        """The case that the test was met when a statement with these ways has come to its end, or None."""
        passed = [] if met is None else [joint(met, ways[END])]
        if MET_END in ways:
            passed.append(joint(done, ways[MET_END]))
        return any_of(passed) if passed else None

    def statement_ways(self, statement, place, there):
        word = statement[0]
        if word == "if":
            return self.split_ways(statement, place, there, self.guards(statement[1]))
        if word == "choose":
            return self.split_ways(statement, place, there, [EMPTY, EMPTY])
        if word == "for":
            return self.loop_ways(statement, place, there)
        if word == "try":
            return self.try_ways(statement, place, there)
        if word == "set":
            return {END: equality(self.indexes[statement[1]], self.point(statement[2]))}
        if word == "read":
            return {END: EMPTY}
        found = {}
        if word == "ask":
            holding, failing = self.guards(statement[1])
            found[END] = [holding]
            if self.full:
                found[HERE + place] = [failing]
            found[("raise", statement[2], 0, 0)] = [failing]
        elif word == "raise":
            found[("raise", statement[1]) + self.point(statement[2])] = [EMPTY]
        else:
            # An out, a leave and an again are written like their ways.
            return {statement: EMPTY}
        return joined(there, found)

    def split_ways(self, statement, place, there, guards):
        """The ways of a statement that begins that of its blocks whose guard fits."""
        found = {}
        for number, guard in enumerate(guards):
            self.add_block(found, statement, place, number, there, guard, False)
        return joined(there, found)

    def add_block(self, found, statement, place, number, there, entry, met):
        """Add the ways of a block of a statement that is begun if the entry, a case, fits; met: with the test met."""
        inner = narrowed(there, entry)
        if inner is not None:
            ways = self.block_ways(blocks_of(statement)[number], place + (number,), inner)
            for way in ways:
                if not met:
                    add(found, way, joint(entry, ways[way]))
                elif way[0] != MET:
                    add(found, met_way(way), joint(entry, ways[way]))

    def loop_ways(self, statement, place, there):
        word, name, low, high, body, other = statement
        x = self.indexes[name]
        turn = among(x, self.point(low), self.point(high))
        inner = narrowed(there, turn)
        ways = {} if inner is None else self.block_ways(body, place + (0,), inner)
        stopping = self.stopping(statement, there, self.passing(body, inner, ways))
        meeting = self.meeting(statement, there, inner, ways)
        found = {}
        for met, before in self.befores(stopping, meeting, (x, 0)):
            self.add_turn(found, ways, joint(turn, before), met)
        for met, before in self.befores(stopping, meeting, self.point(high)):
            self.add_block(found, statement, place, 1, there, before, met)
        return joined(there, found)

    def add_turn(self, found, ways, before, met):
        """Add the ways of a turn that goes out if a case fits; met: with the test met in a turn before it."""
        for way in ways:
            plain = plain_way(way)
            if plain not in (END, AGAIN) and not (met and way[0] == MET):
                past = END if plain == LEAVE else plain
                add(found, met_way(past) if met or way[0] == MET else past, joint(before, ways[way]))

    def befores(self, stopping, meeting, point):
        """Whether the test was met, and the case that all turns of a loop pass that are below a point."""
        passing = self.all_pass(stopping, point)
        found = [(False, passing)]
        if meeting is not None:
            found.append((True, joint(passing, moved_group(meeting, self.places(point)))))
        return found

    def meeting(self, statement, there, inner, ways):
        """The case that one of the turns from the first one up to self.behind can pass and meet the test, or None."""
        word, name, low, high, body, other = statement
        met = self.passing(body, inner, {plain_way(way): ways[way] for way in ways if way[0] == MET})
        if met is None:
            return None
        x = self.indexes[name]
        case = joint(among(x, self.point(low), (self.behind, 0)), met)
        return shadow_case(self.below(statement, there), case, [x])

    def below(self, statement, there):
        """The states with which self.behind is at most the loop's high value."""
        j, k = self.point(statement[3])
        return narrowed(there, (((self.behind, j, k),), ()))

    def places(self, point):
        """Where integers go if a point stands for what is at self.behind."""
        return [point if i == self.behind else (i, 0) for i in range(1 + self.behind)]

    def passing(self, body, inner, ways):
        """The case that a turn can pass, if the body of the loop has these ways in the states inner; None: none can."""
        if END not in ways and AGAIN not in ways:
            return None
        case = any_of([ways[way] for way in (END, AGAIN) if way in ways])
        hidden = [self.indexes[name] for name in names_set(body)]
        return shadow_case(inner, case, hidden) if hidden or size_of((case,)) > SMALL else case

    def stopping(self, statement, there, passing):
        """The case that one of the turns of a loop from the first one up to self.behind cannot pass; None: all can.

        It counts only if self.behind is at most the loop's high value.
        """
        word, name, low, high, body, other = statement
        x = self.indexes[name]
        case = among(x, self.point(low), (self.behind, 0))
        if passing is not None:
            case = joint(case, ((), (denied(passing),)))
        return shadow_case(self.below(statement, there), case, [x])

    def all_pass(self, stopping, point):
        """The case that all turns of a loop pass that are below a point."""
        if stopping is None:
            return EMPTY
        return ((), (moved_group(denied(stopping), self.places(point)),))

    def try_ways(self, statement, place, there):
        word, block, handlers, other, always = statement
        ways = self.block_ways(block, place + (0,), there)
        found = {}
        entries = {}
        for way in ways:
            plain = plain_way(way)
            at = first_fit(handlers, plain[1]) if plain[0] == "raise" else None
            if at is not None:
                name = handlers[at][1]
                named = EMPTY if name is None else equality(self.indexes[name], plain[2:])
                add(entries, (1 + at, way[0] == MET), joint(ways[way], named))
            elif plain == END:
                add(entries, (1 + len(handlers), way[0] == MET), ways[way])
            else:
                add(found, way, ways[way])
        for number, met in entries:
            self.add_block(found, statement, place, number, there, any_of(entries[(number, met)]), met)
        return self.always_ways(statement, place, there, joined(there, found))

    def always_ways(self, statement, place, there, ways):
        """The ways of a try, of the parts of which before its always part there are these ways."""
        found = {}
        for way in ways:
            past = {}
            if way[:1] == HERE:
                add(past, END, ways[way])
            else:
                number = 2 + len(statement[2])
                self.add_block(past, statement, place, number, there, ways[way], way[0] == MET)
            for last in past:
                for case in past[last]:
                    add(found, past_always(way, last), case)
        return joined(there, found)
