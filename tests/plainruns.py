"""A plain reading of points 3.1 and 4.1: a run as nested calls, in which each way out is an error of Python's."""

from tests.byform import paths_of_block


class Way(Exception):
    """A way other than the end: ("leave",), ("again",), ("out", out) or ("raise", kind, value), with the values there."""

    def __init__(self, way, values):
        super().__init__(way)
        self.way = way
        self.values = values


class Stopped(Exception):
    """The run needs more steps ("long") or more answers ("few")."""


class PlainRun:
    """A run with its counts: the steps that it took, and how many answers."""

    def __init__(self, program, inputs, answers, steps):
        self.answers = list(answers)
        self.most = steps
        self.steps = 0
        self.taken = 0
        try:
            self.way, self.values = ("end",), self.block(program.block, dict(inputs))
        except Way as way:
            self.way, self.values = way.way, way.values

    def step(self):
        if self.steps == self.most:
            raise Stopped("long")
        self.steps += 1

    def answer(self):
        if self.taken == len(self.answers):
            raise Stopped("few")
        self.taken += 1
        return self.answers[self.taken - 1]

    def block(self, block, values):
        for statement in block:
            self.step()
            values = getattr(self, "do_" + statement[0])(statement, values)
        return values

    def number(self, value, values):
        return value[1] + (values[value[0]] if value[0] else 0)

    def holds(self, literal, values):
        return self.number((literal[0], 0), values) <= self.number(literal[1:], values)

    def do_set(self, statement, values):
        return {**values, statement[1]: self.number(statement[2], values)}

    def do_read(self, statement, values):
        return {**values, statement[1]: self.answer()}

    def do_if(self, statement, values):
        return self.block(statement[2] if self.holds(statement[1], values) else statement[3], values)

    def do_choose(self, statement, values):
        return self.block(statement[1] if self.answer() == 0 else statement[2], values)

    def do_ask(self, statement, values):
        if not self.holds(statement[1], values):
            raise Way(("raise", statement[2], 0), values)
        return values

    def do_raise(self, statement, values):
        raise Way(("raise", statement[1], self.number(statement[2], values)), values)

    def do_out(self, statement, values):
        raise Way(statement, values)

    do_leave = do_again = do_out

    def do_for(self, statement, values):
        _, name, low, high, body, other = statement
        turn, behind = self.number(low, values), self.number(high, values)
        while turn < behind:
            self.step()
            try:
                self.block(body, {**values, name: turn})
            except Way as way:
                if way.way == ("leave",):
                    return way.values
                if way.way != ("again",):
                    raise
            turn += 1
        return self.block(other, values)

    def do_try(self, statement, values):
        _, block, handlers, other, always = statement
        ending = None
        try:
            found = self.tried(block, handlers, other, values)
        except Way as way:
            ending = way
        self.block(always, values)
        if ending is not None:
            raise ending
        return found

    def tried(self, block, handlers, other, values):
        try:
            found = self.block(block, values)
        except Way as way:
            for kinds, name, inner in handlers:
                if way.way[0] == "raise" and (kinds == () or way.way[1] in kinds):
                    handler, values = inner, {**values, name: way.way[2]} if name else values
                    break
            else:
                raise
        else:
            return self.block(other, found)
        return self.block(handler, values)


def known_at_way(program, way):
    """The sorted names known at a way out, by all paths by form."""
    if way[0] == "raise":
        return sorted(program.inputs + ("value",))
    paths = paths_of_block(program.block, frozenset(program.inputs))
    return sorted(frozenset.intersection(*[names for past, names in paths if past == way]))


def result_of(program, inputs, answers, steps=1000):
    """What run returns: a pair; or "long" or "few". Behind it the steps and the answers taken, if it returns a pair."""
    try:
        found = PlainRun(program, inputs, answers, steps)
    except Stopped as stopped:
        return str(stopped), None, None
    values = dict(found.values)
    if found.way[0] == "raise":
        values["value"] = found.way[2]
    way = found.way[:2]
    return (way, {name: values[name] for name in known_at_way(program, way)}), found.steps, found.taken


