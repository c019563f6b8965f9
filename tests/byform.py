"""The points 3.3 to 3.6 in another way than the program's: all paths by form are listed, with the names set on each.

A path through a block or a statement is a pair (way, names). The words that a program may use here are few.
"""

END = ("end",)
LEAVE = ("leave",)


def paths_of_block(block, names):
    found = set()
    begun = {frozenset(names)}
    for statement in block:
        ended = set()
        for known in begun:
            for way, there in paths_of(statement, known):
                if way == END:
                    ended.add(there)
                else:
                    found.add((way, there))
        begun = ended
    return found | {(END, known) for known in begun}


def paths_of(statement, names):
    word = statement[0]
    if word in ("set", "read"):
        return {(END, names | {statement[1]})}
    if word in ("if", "choose"):
        return paths_of_block(statement[-2], names) | paths_of_block(statement[-1], names)
    if word == "ask":
        return {(END, names), (("raise", statement[2]), names)}
    if word == "raise":
        return {(("raise", statement[1]), names)}
    if word == "for":
        return paths_of_loop(statement, names)
    if word == "try":
        return paths_of_try(statement, names)
    return {(statement, names)}


def paths_of_loop(statement, names):
    found = set(paths_of_block(statement[5], names))
    for way, there in paths_of_block(statement[4], names | {statement[1]}):
        if way == LEAVE:
            found.add((END, there))
        elif way[0] in ("out", "raise"):
            found.add((way, there))
    return found


def paths_of_try(statement, names):
    _, block, handlers, other, always = statement
    inner = set()
    for way, there in paths_of_block(block, names):
        fits = [handler for handler in handlers if way[0] == "raise" and (not handler[0] or way[1] in handler[0])]
        if fits:
            caught = names | ({fits[0][1]} if fits[0][1] else set())
            inner |= paths_of_block(fits[0][2], caught)
        elif way == END:
            inner |= paths_of_block(other, there)
        else:
            inner.add((way, there))
    last = paths_of_block(always, names)
    found = {(way, there) for way, there in last if way != END}
    return found | inner if any(way == END for way, _ in last) else found


def blocks_in(statement):
    word = statement[0]
    if word in ("if", "choose", "for"):
        return list(statement[-2:])
    if word == "try":
        return [statement[1]] + [handler[2] for handler in statement[2]] + list(statement[3:])
    return []


def walk(block, before=()):
    """All (place, statement) in reading order."""
    for index, statement in enumerate(block):
        yield before + (index,), statement
        for number, inner in enumerate(blocks_in(statement)):
            yield from walk(inner, before + (index, number))


def settings_in(place, statement):
    """All (name, place, handler): handler is the number of the handler that has the name, or None."""
    if statement[0] in ("set", "read", "for"):
        return [(statement[1], place, None)]
    if statement[0] == "try":
        return [(handler[1], place, 1 + at) for at, handler in enumerate(statement[2]) if handler[1]]
    return []


def is_in(place, around, number):
    """Whether a place is in the block with the number of the statement around it."""
    return place[:len(around)] == around and place[len(around):len(around) + 1] == (number,)


def belongs(setting, place, number):
    """Whether a setting is the name of the handler with the number of the try at the place, or in its block."""
    return (setting[1] == place and setting[2] == number) or is_in(setting[1], place, number)


def are_apart(block, first, second):
    for place, statement in walk(block):
        for one, other in ((first, second), (second, first)):
            if statement[0] in ("if", "choose") and is_in(one[1], place, 0) and is_in(other[1], place, 1):
                return True
            if statement[0] == "for" and (one[1] == place or is_in(one[1], place, 0)) and is_in(other[1], place, 1):
                return True
            if statement[0] == "try":
                handlers = range(1, 1 + len(statement[2]))
                for number in handlers:
                    rest = [belongs(other, place, more) for more in handlers if more != number]
                    if belongs(one, place, number) and (any(rest) or is_in(other[1], place, 1 + len(handlers))):
                        return True
    return False


def ends_of(block, names):
    return [there for way, there in paths_of_block(block, names) if way == END]


def known_before(block, inputs, target):
    """The names known before the statement at a place, or None if it is dead."""
    names = frozenset(inputs)
    for at in range(0, len(target), 2):
        if names is None:
            return None
        ends = ends_of(block[:target[at]], names)
        if not ends:
            return None
        names = frozenset.intersection(*ends)
        if at + 1 < len(target):
            statement = block[target[at]]
            names = known_in(statement, target[at + 1], names)
            block = blocks_in(statement)[target[at + 1]]
    return names


def known_in(statement, number, names):
    """The names known at the begin of a block of a statement, or None if it is the other part of a try without it."""
    if statement[0] == "for" and number == 0:
        return names | {statement[1]}
    if statement[0] == "try" and 1 <= number <= len(statement[2]):
        return names | ({statement[2][number - 1][1]} - {None})
    if statement[0] == "try" and number == 1 + len(statement[2]):
        ends = ends_of(statement[1], names)
        return frozenset.intersection(*ends) if ends else None
    return names


def terms_in(statement):
    word = statement[0]
    if word in ("if", "ask"):
        return statement[1][:2]
    if word in ("set", "raise"):
        return statement[2][:1]
    return (statement[2][0], statement[3][0]) if word == "for" else ()


def is_looped(block, place):
    statements = dict(walk(block))
    return any(statements[place[:at]][0] == "for" and place[at] == 0 for at in range(1, len(place), 2))


def first_fault(inputs, block):
    """The (place, why) of BadProgram for statements that all have their form, or None."""
    before = []
    for place, statement in walk(block):
        known = known_before(block, inputs, place)
        if known is None:
            return place, "dead"
        settings = settings_in(place, statement)
        for setting in settings:
            same = [earlier for earlier in before if earlier[0] == setting[0]]
            if setting[0] in inputs or not all(are_apart(block, earlier, setting) for earlier in same):
                return place, "name"
        before.extend(settings)
        if any(term != "" and term not in known for term in terms_in(statement)):
            return place, "term"
        if statement[0] in ("leave", "again") and not is_looped(block, place):
            return place, "loop"
    return None
