"""A plain reading of what stands behind the ways: all runs of a program at once, state by state.

All integers that are read are from -reach to reach, so a state that needs others is not found.
"""

END = ("end",)


def number(state, value):
    return value[1] + (state[value[0]] if value[0] else 0)


def holds(state, literal):
    return number(state, (literal[0], 0)) <= number(state, literal[1:])


class TooMuch(Exception):
    """There are more states than can be looked at."""


class Sets:
    """The states that come to each place, as frozen sets of items, and those that come out, by ways."""

    def __init__(self, program, reach, starts, most=100000):
        self.reach = reach
        self.left = most
        self.at = {place: set() for place in program.places()}
        self.behind = {}
        for start in starts:
            for way, state in self.block(program.block, (), start):
                if way[0] == "raise":
                    state = {**{name: state[name] for name in program.inputs}, "value": way[2]}
                self.behind.setdefault(way[:2], set()).add(frozenset(state.items()))

    def block(self, block, before, start):
        """All (way, state) of a block; the way of an error has its value, too."""
        found = []
        states = [start]
        for index, statement in enumerate(block):
            ended = []
            for state in states:
                self.left -= 1
                if self.left < 0:
                    raise TooMuch()
                self.at[before + (index,)].add(frozenset(state.items()))
                for way, after in self.statement(statement, before + (index,), state):
                    (ended if way == END else found).append(after if way == END else (way, after))
            states = self.different(ended)
        return self.different_pairs(found + [(END, state) for state in states])

    def different(self, states):
        return list({frozenset(state.items()): state for state in states}.values())

    def different_pairs(self, pairs):
        return list({(way, frozenset(state.items())): (way, state) for way, state in pairs}.values())

    def statement(self, statement, place, state):
        word = statement[0]
        if word == "set":
            return [(END, {**state, statement[1]: number(state, statement[2])})]
        if word == "read":
            return [(END, {**state, statement[1]: answer}) for answer in range(-self.reach, self.reach + 1)]
        if word == "if":
            at = 0 if holds(state, statement[1]) else 1
            return self.block(statement[2 + at], place + (at,), state)
        if word == "choose":
            return self.block(statement[1], place + (0,), state) + self.block(statement[2], place + (1,), state)
        if word == "ask":
            return [(END, state)] if holds(state, statement[1]) else [(("raise", statement[2], 0), state)]
        if word == "raise":
            return [(("raise", statement[1], number(state, statement[2])), state)]
        if word == "for":
            return self.loop(statement, place, state)
        if word == "try":
            return self.attempt(statement, place, state)
        return [(statement, state)]

    def loop(self, statement, place, state):
        _, name, low, high, body, other = statement
        found = []
        for turn in range(number(state, low), number(state, high)):
            passed = False
            for way, after in self.block(body, place + (0,), {**state, name: turn}):
                if way in (END, ("again",)):
                    passed = True
                else:
                    found.append((END if way == ("leave",) else way, after))
            if not passed:
                return found
        return found + self.block(other, place + (1,), state)

    def attempt(self, statement, place, state):
        _, block, handlers, other, always = statement
        pending = []
        for way, after in self.block(block, place + (0,), state):
            fits = [at for at, handler in enumerate(handlers) if way[0] == "raise" and (not handler[0] or way[1] in handler[0])]
            if way == END:
                pending += self.block(other, place + (1 + len(handlers),), after)
            elif fits:
                _, name, inner = handlers[fits[0]]
                pending += self.block(inner, place + (1 + fits[0],), {**state, name: way[2]} if name else state)
            else:
                pending.append((way, after))
        found = []
        for way, after in self.block(always, place + (2 + len(handlers),), state) if pending else []:
            found += pending if way == END else [(way, after)]
        return found


def over(states, names):
    """The states, without the other names, as tuples in the order of the names."""
    return {tuple(dict(state)[name] for name in names) for state in states}
