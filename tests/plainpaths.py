"""A plain reading of points 8.1 to 8.5: all paths of a block at once, each with what it comes by.

A walk is a tuple (decisions, way, names, facts). The way of an error has its value, too.
"""

from itertools import product

from tests.plainsets import Sets, holds, number

END = ("end",)


def same(name, value):
    return [("most", name) + value, ("most", value[0], name, -value[1])]


def no(literal):
    left, right, most = literal
    return ("most", right, left, -most - 1)


def then(walk, more):
    """A walk with another one behind it."""
    return (walk[0] + more[0], more[1], walk[2] + more[2], walk[3] + more[3])


def before(decisions, walk, names=(), facts=()):
    return (decisions + walk[0], walk[1], list(names) + walk[2], list(facts) + walk[3])


def walks_of_block(block, place):
    found = [((), END, [], [])]
    for index, statement in enumerate(block):
        walks = walks_of(statement, place + (index,))
        found = [then(walk, more) for walk in found if walk[1] == END for more in walks] + [w for w in found if w[1] != END]
    return found


def walks_of(statement, place):
    return globals()["of_" + statement[0]](statement, place)


def of_set(statement, place):
    return [((), END, [statement[1]], same(statement[1], statement[2]))]


def of_read(statement, place):
    return [((), END, [statement[1]], [])]


def of_choose(statement, place):
    return [before((at,), walk) for at in (0, 1) for walk in walks_of_block(statement[1 + at], place + (at,))]


def of_if(statement, place):
    yes = [before((0,), walk, (), [("most",) + statement[1]]) for walk in walks_of_block(statement[2], place + (0,))]
    return yes + [before((1,), walk, (), [no(statement[1])]) for walk in walks_of_block(statement[3], place + (1,))]


def of_ask(statement, place):
    return [((0,), END, [], [("most",) + statement[1]]), ((1,), ("raise", statement[2], ("", 0)), [], [no(statement[1])])]


def of_raise(statement, place):
    return [((), statement, [], [])]


of_out = of_leave = of_again = of_raise


def of_for(statement, place):
    _, x, low, high, body, other = statement
    facts = [("turns", place, low, high)]
    found = [before((0,), walk, (), facts) for walk in walks_of_block(other, place + (1,))]
    facts = [("most", low[0], x, -low[1]), ("most", x, high[0], high[1] - 1), ("turns", place, low, (x, 0))]
    for walk in walks_of_block(body, place + (0,)):
        if walk[1] not in (END, ("again",)):
            decisions, way, names, more = before((1,), walk, [x], facts)
            found.append((decisions, END if way == ("leave",) else way, names, more))
    return found


def of_try(statement, place):
    _, block, handlers, other, always = statement
    parts = [block] + [handler[2] for handler in handlers] + [other, always]
    walks = [walks_of_block(part, place + (at,)) for at, part in enumerate(parts)]
    found = []
    for walk in walks[0]:
        fits = [at for at, handler in enumerate(handlers) if walk[1][0] == "raise" and (not handler[0] or walk[1][1] in handler[0])]
        if walk[1] == END:
            found += [then(walk, more) for more in walks[-2]]
        elif fits:
            name = handlers[fits[0]][1]
            start = ((), END, [name] if name else [], same(name, walk[1][2]) if name else [])
            found += [then(then(walk, start), more) for more in walks[1 + fits[0]]]
        else:
            found.append(walk)
    ended = []
    for walk in found:
        for more in walks[-1]:
            decisions, way, names, facts = then(walk, more)
            ended.append((decisions, walk[1] if way == END else way, names, facts))
    return ended


def walks_of_program(program):
    """All walks, in ascending order of their decisions, with what a way out adds."""
    found = []
    for decisions, way, names, facts in sorted(walks_of_block(program.block, ()), key=lambda walk: walk[0]):
        names = names + list(program.inputs)
        if way[0] == "raise":
            names, facts = names + ["value"], facts + same("value", way[2])
        found.append((decisions, way[:2], sorted(names), facts))
    return found


def does_pass(program, place, values, turn, reach):
    """Whether a turn passes if only integers from -reach to reach are read."""
    statement = program[place]
    ends = Sets(program, reach, []).block(statement[4], place + (0,), {**values, statement[1]: turn})
    return any(way in (END, ("again",)) for way, state in ends)


def fault(program, walk, values, reach):
    """What run_fault returns for a walk and values of its names, if its turns need no more than is read."""
    for index, fact in enumerate(walk[3]):
        if fact[0] == "most" and not holds(values, fact[1:]):
            return ("fact", index)
        if fact[0] == "turns":
            _, place, low, high = fact
            there = {name: values[name] for name in program.known_before[place]}
            for turn in range(number(values, low), number(values, high)):
                if not does_pass(program, place, there, turn, reach):
                    return ("fact", index)
    return None


def small_values(names, numbers):
    for found in product(numbers, repeat=len(names)):
        yield dict(zip(names, found))
