"""A plain reading of points 10.2, 10.3 and 11.2: all runs of a program at once, with what they came by.

A state has the key MET, with whether the test was met. All integers that are read are from -reach to reach.
"""

from tests.plainsets import Sets, TooMuch, holds, number

END = ("end",)
MET = "@met"


class Meets(Sets):
    """All ends of the runs of a program as (way, state), and which asks failed and which blocks were begun."""

    def __init__(self, program, reach, starts, place=None, literal=None, most=60000):
        self.reach = reach
        self.left = most
        self.place = place
        self.literal = literal
        self.failed = set()
        self.begun = set()
        self.ends = []
        for start in starts:
            for way, state in self.block(program.block, (), {**start, MET: False}):
                if way[0] == "raise":
                    state = {**state, "value": way[2]}
                self.ends.append((way[:2], state))

    def block(self, block, before, start):
        self.begun.add(before)
        found, states = [], [start]
        for index, statement in enumerate(block):
            ended = []
            for state in states:
                self.left -= 1
                if self.left < 0:
                    raise TooMuch()
                if before + (index,) == self.place and not holds(state, self.literal):
                    state = {**state, MET: True}
                for way, after in self.statement(statement, before + (index,), state):
                    (ended if way == END else found).append(after if way == END else (way, after))
            states = self.different(ended)
        return self.different_pairs(found + [(END, state) for state in states])

    def statement(self, statement, place, state):
        if statement[0] == "ask" and not holds(state, statement[1]):
            self.failed.add(place)
        return super().statement(statement, place, state)

    def loop(self, statement, place, state):
        _, name, low, high, body, other = statement
        found = []
        marks = {state[MET]}
        for turn in range(number(state, low), number(state, high)):
            passed = set()
            for mark in marks:
                for way, after in self.block(body, place + (0,), {**state, MET: mark, name: turn}):
                    if way in (END, ("again",)):
                        passed.add(after[MET])
                    else:
                        found.append((END if way == ("leave",) else way, after))
            marks = passed
        for mark in marks:
            found += self.block(other, place + (1,), {**state, MET: mark})
        return found

    def attempt(self, statement, place, state):
        _, block, handlers, other, always = statement
        pending = []
        for way, after in self.block(block, place + (0,), state):
            fits = [at for at, handler in enumerate(handlers) if way[0] == "raise" and (not handler[0] or way[1] in handler[0])]
            if way == END:
                pending += self.block(other, place + (1 + len(handlers),), after)
            elif fits:
                _, name, inner = handlers[fits[0]]
                caught = {**after, name: way[2]} if name else after
                pending += self.block(inner, place + (1 + fits[0],), caught)
            else:
                pending.append((way, after))
        found = []
        for way, after in pending:
            for last, end in self.block(always, place + (2 + len(handlers),), after):
                found.append((way if last == END else last, end))
        return found


def lost(program, way, wish, place, literal, reach, starts):
    """Whether one of the runs is lost by the test for a literal ahead of a place."""
    ends = Meets(program, reach, starts, place, literal).ends
    return any(past == way and state[MET] and holds(state, wish) for past, state in ends)
