"""Trees: they show that facts contradict each other, and here it is judged whether they do."""

from behindexits.cuts import cut_facts, moved_facts
from behindexits.differences import are_indices, goes_round
from behindexits.terms import check_row
from behindexits.traces import trace_of, turn_traces
from behindexits.words import is_number


def closes(program, path, extra, tree):
    """Whether an object is a tree over the facts of a path and further literals."""
    trace = trace_of(program, path)
    check_row(extra)
    facts = moved_facts(program, trace.facts, {}) + [("most",) + literal for literal in extra]
    return is_closed(program, facts, tree, 1)


def is_closed(program, facts, tree, depth):
    """Whether an object is a tree over the facts; a node "turn" at its top would be at this depth."""
    if not isinstance(tree, tuple) or not tree or not isinstance(tree[0], str):
        return False
    if tree[0] == "ring":
        return len(tree) == 2 and is_fact_ring(facts, tree[1])
    if tree[0] != "turn" or len(tree) != 4:
        return False
    word, index, value, trees = tree
    if not is_number(index) or not 0 <= index < len(facts) or facts[index][0] != "turns":
        return False
    if not is_turn_value(value) or not isinstance(trees, tuple):
        return False
    if len(trees) != 2 + len(turn_traces(program, facts[index][1])):
        return False
    for more, inner in zip(cut_facts(program, facts[index], value, str(depth) + ":"), trees):
        if not is_closed(program, facts + more, inner, depth + 1):
            return False
    return True


def is_fact_ring(facts, indices):
    if not are_indices(indices, len(facts)):
        return False
    for index in indices:
        if facts[index][0] != "most":
            return False
    return goes_round([facts[index][1:] for index in indices])


def is_turn_value(thing):
    """Whether it may be the turn that is looked at: any string with an integer."""
    return isinstance(thing, tuple) and len(thing) == 2 and isinstance(thing[0], str) and is_number(thing[1])
