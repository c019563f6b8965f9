"""Short ways to write statements in tests."""

ZERO = ("", 0)
END = ("end",)
LEAVE = ("leave",)
AGAIN = ("again",)
OUT = ("out", "done")
LATE = ("raise", "late")


def loop(body, other=(), name="i", low=ZERO, high=("n", 0)):
    return ("for", name, low, high, tuple(body), tuple(other))


def attempt(block, handlers=(), other=(), always=()):
    return ("try", tuple(block), tuple(handlers), tuple(other), tuple(always))


def choose(yes, no=()):
    return ("choose", tuple(yes), tuple(no))


def when(left, right, number, yes, no=()):
    return ("if", (left, right, number), tuple(yes), tuple(no))


def ask(left, right, number, kind="late"):
    return ("ask", (left, right, number), kind)
