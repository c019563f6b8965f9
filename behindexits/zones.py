"""Zones: sets of states that are given by literals alone, kept with all their tightest differences.

A zone is a tuple of rows with an integer or None in each place: item [i][j] is the least number with
x(i) <= x(j) + number in all states of the zone, None if there is none. x(0) is 0, x(1) is the first name and so on.
Each zone has a state. In a zone's literals (i, j, number) the indexes stand for the terms.

Nothing here changes what it is passed: the operators of States, which must not, run through here.
"""


def whole(many):
    """The zone of all states of so many integers."""
    return tuple([tuple([0 if i == j else None for j in range(many + 1)]) for i in range(many + 1)])


def opposite(literal):
    i, j, number = literal
    return (j, i, -number - 1)


def fails(zone, literal):
    """Whether the literal holds in no state of the zone."""
    i, j, number = literal
    back = zone[j][i]
    return back is not None and back + number < 0


def follows(zone, literal):
    """Whether the literal holds in all states of the zone."""
    i, j, number = literal
    return zone[i][j] is not None and zone[i][j] <= number


def met(zone, literal):
    """The states of the zone with which the literal holds, or None if there is none."""
    i, j, number = literal
    there = zone[i][j]
    if there is not None and there <= number:
        return zone
    back = zone[j][i]
    if back is not None and back + number < 0:
        return None
    tail = [(k, step + number) for k, step in enumerate(zone[j]) if step is not None]
    return tuple([row if row[i] is None else shortened(row, row[i], tail) for row in zone])


def shortened(row, start, tail):
    """The row's numbers, or the start and the tail's number where this is less."""
    found = list(row)
    for k, step in tail:
        old = row[k]
        if old is None or old > start + step:
            found[k] = start + step
    return tuple(found)


def met_all(zone, literals):
    """The states of the zone with which all the literals hold, or None if there is none."""
    for literal in literals:
        zone = met(zone, literal)
        if zone is None:
            return None
    return zone


def is_inside(zone, other):
    """Whether each state of the zone is one of the other zone."""
    for row, wide in zip(zone, other):
        if row != wide:
            for least, most in zip(row, wide):
                if most is not None and (least is None or least > most):
                    return False
    return True


def literals_of(zone):
    """As few literals as give the zone."""
    return literals_among(zone, list(range(len(zone))))


def literals_among(zone, indexes):
    """As few literals as say what the zone says of the integers at these indexes, in ascending order."""
    heads = {i: head_of(zone, indexes, i) for i in indexes}
    found = []
    firsts = [i for i in indexes if heads[i] == i]
    if len(firsts) < len(indexes):
        for head in firsts:
            group = [i for i in indexes if heads[i] == head]
            if len(group) > 1:
                # These differ by fixed numbers: a ring through them says so.
                found = found + [(i, j, zone[i][j]) for i, j in zip(group, group[1:] + group[:1])]
    for i in firsts:
        others = [j for j in firsts if zone[i][j] is not None and i != j]
        found = found + [(i, j, zone[i][j]) for j in others if is_needed(zone, firsts, i, j)]
    return tuple(found)


def head_of(zone, indexes, i):
    """The first one of the indexes whose integer differs from that of i by a fixed number."""
    row = zone[i]
    for j in indexes:
        if j == i or (row[j] is not None and zone[j][i] is not None and row[j] + zone[j][i] == 0):
            return j
    return i


def is_needed(zone, firsts, i, j):
    """Whether the difference of i and j does not come from two others; there is one."""
    row = zone[i]
    number = row[j]
    for k in firsts:
        step = row[k]
        if step is not None and zone[k][j] is not None and k != i and k != j and step + zone[k][j] <= number:
            return False
    return True


def spread(zone, olds):
    """The zone over other integers: olds has the index that each was at, or None for one that was not there."""
    numbers = []
    for row, i in enumerate(olds):
        numbers.append(tuple([0 if row == column else number_at(zone, i, j) for column, j in enumerate(olds)]))
    return tuple(numbers)


def number_at(zone, i, j):
    return None if i is None or j is None else zone[i][j]


def picked(zone, indexes):
    """The zone over the integers at these indexes alone."""
    rows = [zone[i] for i in indexes]
    return tuple([tuple([row[j] for j in indexes]) for row in rows])


def point_of(zone):
    """One state of the zone, as the list of its integers, the 0 at their front left in."""
    found = [0]
    for i in range(1, len(zone)):
        least = None
        most = None
        for j, number in enumerate(found):
            if zone[i][j] is not None and (most is None or number + zone[i][j] < most):
                most = number + zone[i][j]
            if zone[j][i] is not None and (least is None or number - zone[j][i] > least):
                least = number - zone[j][i]
        if least is None:
            least = 0 if most is None else most
        found.append(least)
    return found


def has_point(zone, numbers):
    """Whether the integers, the 0 at their front, are a state of the zone."""
    for row, left in zip(zone, numbers):
        for most, right in zip(row, numbers):
            if most is not None and left - right > most:
                return False
    return True


def freed(zone, indexes):
    """The zone with any integers at the indexes."""
    found = []
    for i, row in enumerate(zone):
        numbers = list(row)
        if i in indexes:
            numbers = [None for number in row]
        for j in indexes:
            numbers[j] = None
        numbers[i] = 0
        found.append(tuple(numbers))
    return tuple(found)


def are_linked(zone, hidden, i, j):
    """Whether a difference of two hidden integers does not come from others that are not hidden."""
    return is_link(zone, hidden, i, j) or is_link(zone, hidden, j, i)


def is_link(zone, hidden, i, j):
    number = zone[i][j]
    if number is None:
        return False
    for k in range(len(zone)):
        if k not in hidden and zone[i][k] is not None and zone[k][j] is not None and zone[i][k] + zone[k][j] <= number:
            return False
    return True


def around(zone, other):
    """The least zone around two zones."""
    return tuple([tuple([greater(one, two) for one, two in zip(row, more)]) for row, more in zip(zone, other)])


def greater(one, two):
    """The greater one of two numbers, None if one of them is None."""
    if one is None or two is None:
        return None
    return one if one > two else two
