"""Proofs: trees found step by step, before the places of their facts are known.

A proof names its facts by what they say. It is ("ring", literals), or ("cut", fact, value, mark, proofs): the cut of a
fact "turns", with a proof for each of its cases. The mark stands in front of the names that the turn sets.

What a proof needs is kept with it, as a dict with the facts it uses as its keys. So a proof serves wherever these facts
are, or others that say more: a literal with a number that is less says more.
"""

from behindexits.cuts import cut_facts
from behindexits.differences import lower_once, ring_behind
from behindexits.turns import first_stopping, turns_of

# When the cases of the cuts that were looked at are so many, the best cut up to there is taken.
MOST_CASES = 200


class Known:
    """Facts, with heights for their terms with which all literals hold; or a ring of them, if there are none.

    best has the least number for each two terms of a literal. The cuts that were made are kept, too.
    """

    def __init__(self, literals, best, turns, made, heights):
        self.literals = literals
        self.best = best
        self.turns = turns
        self.made = made
        self.heights = heights
        self.ring = None

    def with_facts(self, facts, made):
        """These facts and further ones, for which these cuts were made."""
        best = {terms: self.best[terms] for terms in self.best}
        other = Known(list(self.literals), best, list(self.turns), made, self.heights)
        for fact in facts:
            if fact[0] == "turns":
                other.turns.append(fact)
            else:
                other.add_literal(fact[1:])
        if other.ring is None:
            other.settle()
        return other

    def add_literal(self, literal):
        self.literals.append(literal)
        left, right, number = literal
        least = self.best.get((left, right))
        if least is None or number < least:
            self.best[(left, right)] = number
            if self.ring is None:
                self.ring = short_ring(self.best, literal)

    def settle(self):
        """Lower the heights until all literals hold with them, or a ring is found."""
        heights = dict(self.heights)
        zero = heights.setdefault("", 0)
        for left, right in self.best:
            heights.setdefault(left, zero)
            heights.setdefault(right, zero)
        self.heights = heights
        lowered_by = {}
        for _ in range(len(heights) + 1):
            lowered = lower_once(self.literals, heights, lowered_by)
            if lowered is None:
                return
        self.ring = tuple([self.literals[at] for at in ring_behind(self.literals, lowered_by, lowered)])

    def number(self, value):
        """The integer of a value with the heights."""
        term, number = value
        zero = self.heights[""]
        return self.heights.get(term, zero) - zero + number

    def has_all(self, needs):
        """Whether the facts that a proof needs are here, or others that say more."""
        for fact in needs:
            if not self.has(fact):
                return False
        return True

    def has(self, fact):
        if fact[0] == "turns":
            return fact in self.turns
        word, left, right, number = fact
        least = self.best.get((left, right))
        return least is not None and least <= number


def short_ring(best, literal):
    """The ring of a literal alone or with one other, or None."""
    left, right, number = literal
    if left == right:
        return (literal,) if number < 0 else None
    back = best.get((right, left))
    return None if back is None or back + number >= 0 else (literal, (right, left, back))


class Search:
    """A search for proofs about the paths of a program; those that were found are kept."""

    def __init__(self, program):
        self.program = program
        self.marks = 0
        self.found = []

    def proof(self, facts):
        """A proof that the facts contradict each other; they do."""
        known = Known([], {}, [], {}, {"": 0}).with_facts(facts, {})
        served = serving(self.found, known)
        if served is None:
            served = self.closed(known)
            self.found.append(served)
        return served[0]

    def closed(self, known):
        """A proof, and what it needs."""
        if known.ring is not None:
            return (("ring", known.ring), {("most",) + literal: True for literal in known.ring})
        cut = self.best_cut(known)
        proofs = []
        parts = []
        for case in cut.cases:
            served = serving(proofs, case)
            if served is None:
                served = self.closed(case)
                if known.has_all(served[1]):
                    # It was for nothing that this turn was looked at.
                    return served
                proofs.append(served)
            parts.append(served)
        needs = {cut.fact: True}
        for added, (proof, more) in zip(cut.added, parts):
            for fact in more:
                if not do_say(added, fact):
                    needs[fact] = True
        return (("cut", cut.fact, cut.value, cut.mark, tuple([proof for proof, more in parts])), needs)

    def best_cut(self, known):
        """A cut that takes the heights away, with as few cases left open as is seen."""
        best = None
        looked = 0
        for fact, value in self.cuts(known):
            cut = self.cut(known, fact, value)
            if best is None or cut.many < best.many:
                best = cut
            looked += len(cut.cases)
            if looked > MOST_CASES:
                break
        return best

    def cuts(self, known):
        """The facts "turns" that do not hold with the heights, each with the values of its first turn that fails.

        Those cuts are left out that were made: then a fact within one of their cases does not hold.
        """
        found = []
        for fact in known.turns:
            word, place, low, high, stands = fact
            there = {name: known.number(value) for name, value in stands}
            turn = first_stopping(self.program, place, there, known.number(low), known.number(high))
            if turn is not None:
                values = self.ends(fact, turn, there)
                if known.number(low) == turn:
                    values[low] = True
                found.extend([(fact, value) for value in values if (fact, value) not in known.made])
        return found

    def ends(self, fact, turn, there):
        """The values that are just behind what bounds turns that pass, if the turn is: as keys of a dict."""
        turns = turns_of(self.program, fact[1])
        numbers = turns.numbers_of(there)
        stands = dict(fact[4])
        found = {}
        for i, j, number in turns.bounds:
            if i == turns.x and numbers[j] + number + 1 == turn:
                term, more = stands.get(turns.terms[j], ("", 0))
                found[(term, more + number + 1)] = True
        return found

    def cut(self, known, fact, value):
        mark = "#" + str(self.marks) + ":"
        self.marks += 1
        return Cut(self.program, known, fact, value, mark)


class Cut:
    """A cut of a fact, with what its cases add, and how many of these are not seen to be closed."""

    def __init__(self, program, known, fact, value, mark):
        self.fact = fact
        self.value = value
        self.mark = mark
        self.added = cut_facts(program, fact, value, mark)
        cuts = {made: True for made in known.made}
        cuts[(fact, value)] = True
        self.cases = [known.with_facts(facts, cuts) for facts in self.added]
        self.many = len([case for case in self.cases if case.ring is None])


def serving(proofs, known):
    """The first of the proofs, with what it needs, that serves where these facts are, or None."""
    for proof, needs in proofs:
        if known.has_all(needs):
            return (proof, needs)
    return None


def do_say(facts, wanted):
    """Whether one of the facts is the wanted one, or says more."""
    for fact in facts:
        if fact == wanted:
            return True
        if fact[0] == "most" and fact[:3] == wanted[:3] and fact[3] <= wanted[3]:
            return True
    return False


class Writer:
    """It writes proofs as trees, in which facts have indexes."""

    def __init__(self, program):
        self.program = program

    def tree(self, facts, proof):
        """The tree of a proof over the facts."""
        return self.written(proof, placed({}, 0, facts), len(facts), {})

    def written(self, proof, places, many, depths):
        """The tree of a proof: the facts before it, so many, have these places, and the marks so many depths."""
        if proof[0] == "ring":
            return ("ring", tuple([places[literal[:2]][1] for literal in proof[1]]))
        word, fact, (term, number), mark, proofs = proof
        if ":" in term:
            outer, colon, name = term.partition(":")
            term = depths[outer + colon] + name
        inner = {old: depths[old] for old in depths}
        inner[mark] = str(1 + len(depths)) + ":"
        trees = []
        for facts, part in zip(cut_facts(self.program, fact, proof[2], mark), proofs):
            trees.append(self.written(part, placed(places, many, facts), many + len(facts), inner))
        return ("turn", places[fact], (term, number), tuple(trees))


def placed(places, many, facts):
    """The places of facts, so many, and of further ones behind them.

    A fact "turns" has its index; two terms have the least number that a literal of them has, and its index.
    """
    found = {fact: places[fact] for fact in places}
    for at, fact in enumerate(facts):
        if fact[0] == "turns":
            found[fact] = many + at
        else:
            word, left, right, number = fact
            if (left, right) not in found or number < found[(left, right)][0]:
                found[(left, right)] = (number, many + at)
    return found
