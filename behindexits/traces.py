"""Traces: what a path through a program comes by, as names that get a value and as facts."""

from behindexits.errors import NoPath
from behindexits.flows import AGAIN, END, LEAVE
from behindexits.forms import blocks_of
from behindexits.routes import block_routes, following
from behindexits.words import is_number
from behindexits.zones import opposite

# So many traces of a program are kept at the most.
MOST_KEPT = 1000


def equal_facts(name, value):
    """The facts that a name has a value."""
    term, number = value
    return [("most", name, term, number), ("most", term, name, -number)]


class Trace:
    """A walk along a path by form, from the begin of a block on. The way of an error has its value, too."""

    def __init__(self, path, block, before):
        self.path = path
        self.at = 0
        self.names = []
        self.facts = []
        self.way = self.through_block(block, before)
        if self.at < len(path):
            raise NoPath()

    def decide(self):
        if self.at == len(self.path) or self.path[self.at] not in (0, 1):
            raise NoPath()
        self.at += 1
        return self.path[self.at - 1]

    def through_block(self, block, before):
        """Go through a block, the places in which begin with before; the way by which it goes out."""
        for index, statement in enumerate(block):
            way = self.through(statement, before + (index,))
            if way != END:
                return way
        return END

    def through_part(self, statement, place, number):
        return self.through_block(blocks_of(statement)[number], place + (number,))

    def through(self, statement, place):
        word = statement[0]
        if word == "set":
            self.names.append(statement[1])
            self.facts.extend(equal_facts(statement[1], statement[2]))
            return END
        if word == "read":
            self.names.append(statement[1])
            return END
        if word == "choose":
            return self.through_part(statement, place, self.decide())
        if word == "if":
            return self.through_part(statement, place, self.decide_literal(statement[1]))
        if word == "ask":
            return END if self.decide_literal(statement[1]) == 0 else ("raise", statement[2], ("", 0))
        if word == "for":
            return self.through_loop(statement, place)
        if word == "try":
            return self.through_try(statement, place)
        # A raise, an out, a leave and an again are written like their ways.
        return statement

    def decide_literal(self, literal):
        decision = self.decide()
        self.facts.append(("most",) + (literal if decision == 0 else opposite(literal)))
        return decision

    def through_loop(self, statement, place):
        word, name, low, high, body, other = statement
        if self.decide() == 0:
            self.facts.append(("turns", place, low, high))
            return self.through_part(statement, place, 1)
        self.names.append(name)
        self.facts.append(("most", low[0], name, -low[1]))
        self.facts.append(("most", name, high[0], high[1] - 1))
        self.facts.append(("turns", place, low, (name, 0)))
        way = self.through_part(statement, place, 0)
        if way in (END, AGAIN):
            raise NoPath()
        return END if way == LEAVE else way

    def through_try(self, statement, place):
        way = self.through_part(statement, place, 0)
        number = following(statement, way)
        if number is not None:
            if way != END:
                self.catch(statement[2][number - 1][1], way[2])
            way = self.through_part(statement, place, number)
        last = self.through_part(statement, place, 2 + len(statement[2]))
        return way if last == END else last

    def catch(self, name, value):
        """Begin a handler with the name for an error with the value."""
        if name is not None:
            self.names.append(name)
            self.facts.extend(equal_facts(name, value))


def trace_of(program, path):
    """The trace of a path through a program."""
    if not isinstance(path, tuple) or not all([is_number(step) for step in path]):
        raise NoPath()
    kept = program.kept.setdefault("traces", {})
    if path not in kept:
        trace = Trace(path, program.block, ())
        trace.names.extend(list(program.inputs))
        if trace.way[0] == "raise":
            trace.names.append("value")
            trace.facts.extend(equal_facts("value", trace.way[2]))
        if len(kept) == MOST_KEPT:
            return trace
        kept[path] = trace
    return kept[path]


def turn_traces(program, place):
    """The traces of the turns of the loop at a place that pass, in the order of their paths."""
    key = ("turns", place)
    if key not in program.kept:
        body = program[place][4]
        routes = block_routes(body, {END: True, AGAIN: True})
        program.kept[key] = tuple([Trace(path, body, place + (0,)) for path, way in routes])
    return program.kept[key]
