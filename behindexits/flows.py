"""Flows: the ways of statements and blocks by form, with the names that are known at each.

A flow is a dict from ways to tuples of names. A way is ("end",), ("leave",), ("again",), ("out", out) or
("raise", kind). The names of a raise are left empty.
"""

END = ("end",)
LEAVE = ("leave",)
AGAIN = ("again",)


def either_flow(one, other):
    """The ways of both: at a way of both, the names are known that are known at both."""
    flow = {way: one[way] for way in one}
    for way in other:
        if way in flow:
            flow[way] = tuple([name for name in flow[way] if name in other[way]])
        else:
            flow[way] = other[way]
    return flow


def without_end(flow):
    return {way: flow[way] for way in flow if way != END}


def simple_flow(statement, known):
    """The flow of a statement without blocks, before which the names are known."""
    word = statement[0]
    if word in ("set", "read"):
        return {END: known + (statement[1],)}
    if word == "ask":
        return {END: known, ("raise", statement[2]): ()}
    if word == "raise":
        return {("raise", statement[1]): ()}
    # An out, a leave and an again are written like their ways.
    return {statement: known}


def loop_flow(body, other):
    """The flow of a loop whose parts have these flows."""
    past = {way: body[way] for way in body if way[0] in ("out", "raise")}
    if LEAVE in body:
        past[END] = body[LEAVE]
    return either_flow(other, past)


def first_fit(handlers, kind):
    """The index of the handler that catches errors of the kind, or None."""
    for at, (kinds, name, block) in enumerate(handlers):
        if not kinds or kind in kinds:
            return at
    return None


def try_flow(handlers, flows):
    """The flow of a try with these handlers whose blocks have these flows, by their numbers."""
    block = flows[0]
    flow = {}
    for way in without_end(block):
        at = first_fit(handlers, way[1]) if way[0] == "raise" else None
        flow = either_flow(flow, {way: block[way]} if at is None else flows[1 + at])
    if END in block:
        flow = either_flow(flow, flows[-2])
    always = flows[-1]
    if END in always:
        return either_flow(flow, without_end(always))
    return always
