"""Random programs that are valid, of a size, with the words that are wanted often."""

from behindexits.errors import BadProgram
from behindexits.programs import Program

EVEN = {"set": 2, "read": 1, "if": 3, "choose": 2, "ask": 3, "raise": 1, "out": 1, "leave": 1, "again": 1, "for": 2, "try": 2}
TRIES = {"set": 2, "read": 1, "if": 2, "choose": 2, "ask": 3, "raise": 3, "out": 2, "leave": 3, "again": 2, "for": 3, "try": 4}
FORKS = ("if", "choose", "for", "try")


class Make:
    """One program: the statements that are left, and the names that are not set yet."""

    def __init__(self, choice, inputs, size, reach, weights):
        self.choice = choice
        self.inputs = inputs
        self.left = size
        self.reach = reach
        self.weights = weights
        self.fresh = list("abcdefghij")
        self.used = []

    def number(self):
        return self.choice.randint(-self.reach, self.reach)

    def value(self, known):
        return (self.choice.choice(("",) + known), self.number())

    def literal(self, known):
        return (self.choice.choice(("",) + known), self.choice.choice(("",) + known), self.number())

    def name(self):
        """A new name mostly; an old one may be apart."""
        if self.fresh and (not self.used or self.choice.random() < 0.85):
            self.used.append(self.fresh.pop(0))
            return self.used[-1]
        return self.choice.choice(self.used)

    def block(self, known, depth, looped):
        """A block, and the names that are mostly known behind it, or None if it mostly has no end."""
        block = []
        while self.left > 0 and (depth == 0 or self.choice.random() > 0.35):
            statement, known = self.statement(known, depth, looped)
            block.append(statement)
            if known is None:
                break
        return tuple(block), known

    def statement(self, known, depth, looped):
        weights = {word: weight for word, weight in self.weights.items() if looped or word not in ("leave", "again")}
        if depth == 0:
            weights.update({"out": 0.2, "raise": 0.2})
        word = self.choice.choices(list(weights), list(weights.values()))[0]
        self.left -= 1
        if word in FORKS:
            return getattr(self, "make_" + word)(known, depth + 1, looped)
        kind = self.choice.choice(("late", "big"))
        if word in ("set", "read"):
            name = self.name()
            return ((word, name, self.value(known)) if word == "set" else (word, name)), known + (name,)
        if word == "ask":
            return (word, self.literal(known), kind), known
        if word == "raise":
            return (word, kind, self.value(known)), None
        return ((word, self.choice.choice(("hole", "done"))) if word == "out" else (word,)), None

    def make_choose(self, known, depth, looped):
        yes, one = self.block(known, depth, looped)
        no, other = self.block(known, depth, looped)
        return ("choose", yes, no), common([one, other])

    def make_if(self, known, depth, looped):
        (_, yes, no), behind = self.make_choose(known, depth, looped)
        return ("if", self.literal(known), yes, no), behind

    def make_for(self, known, depth, looped):
        name = self.name()
        body, _ = self.block(known + (name,), depth, True)
        other, behind = self.block(known, depth, looped)
        return ("for", name, self.value(known), self.value(known), body, other), known if "leave" in str(body) else behind

    def make_try(self, known, depth, looped):
        block, behind = self.block(known, depth, looped)
        handlers, ends = [], []
        for _ in range(self.choice.choice((0, 1, 1, 2, 3))):
            kinds = self.choice.choice(((), ("late",), ("big",), ("late", "big")))
            name = self.name() if self.choice.random() < 0.5 else None
            inner, end = self.block(known + ((name,) if name else ()), depth, looped)
            handlers.append((kinds, name, inner))
            ends.append(end)
        other, end = self.block(behind, depth, looped) if behind and self.choice.random() < 0.5 else ((), behind)
        always, last = self.block(known, depth, looped) if self.choice.random() < 0.5 else ((), known)
        return ("try", block, tuple(handlers), other, always), common(ends + [end]) if last else None


def common(ends):
    """The names known at all ends, or None if there is no end."""
    ends = [end for end in ends if end is not None]
    return tuple(name for name in ends[0] if all(name in end for end in ends)) if ends else None


def random_program(choice, inputs=("n", "k"), size=8, reach=2, weights=None):
    while True:
        try:
            return Program(inputs, Make(choice, inputs, size, reach, weights or EVEN).block(inputs, 0, False)[0])
        except BadProgram:
            pass
