"""A plain reading of rows of literals, state by state."""

from itertools import product


def number_of(state, term):
    return 0 if term == "" else state[term]


def fits_row(row, state):
    return all(number_of(state, left) <= number_of(state, right) + number for left, right, number in row)


def fits_rows(rows, state):
    return any(fits_row(row, state) for row in rows)


def small_states(names, low, high):
    """All states of the names with integers from low to high."""
    for numbers in product(range(low, high + 1), repeat=len(names)):
        yield dict(zip(names, numbers))


def random_rows(random, names, rows, literals, reach):
    """At most so many rows of at most so many literals over the names and ""."""
    terms = ("",) + tuple(names)
    found = []
    for _ in range(random.randint(0, rows)):
        row = []
        for _ in range(random.randint(0, literals)):
            row.append((random.choice(terms), random.choice(terms), random.randint(-reach, reach)))
        found.append(tuple(row))
    return tuple(found)


def full_rows(random, names, rows, literals, reach):
    """Just so many rows of just so many literals, each between two different terms."""
    terms = ("",) + tuple(names)
    return tuple(
        tuple(tuple(random.sample(terms, 2)) + (random.randint(-reach, reach),) for _ in range(literals))
        for _ in range(rows)
    )
