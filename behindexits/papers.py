"""Papers: trees for all paths to a way, that show that a literal holds behind it."""

from behindexits.behind import some_behind
from behindexits.cuts import moved_facts
from behindexits.facts import check_known_literal
from behindexits.paths import check_paths, kept_paths
from behindexits.proofs import Search, Writer
from behindexits.traces import trace_of
from behindexits.trees import closes
from behindexits.words import is_number
from behindexits.zones import opposite


def paper(program, way, literal):
    """A list of pairs (path, tree) for all paths to a way, or None if the literal does not hold behind it."""
    check_known_literal(program, way, literal)
    check_paths(program, way)
    against = opposite(literal)
    if some_behind(program, way, (against,)) is not None:
        return None
    search = Search(program)
    writer = Writer(program)
    found = []
    for path in kept_paths(program, way):
        facts = moved_facts(program, trace_of(program, path).facts, {}) + [("most",) + against]
        found.append((path, writer.tree(facts, search.proof(facts))))
    return found


def paper_fault(program, way, literal, paper):
    """The least index at which an object is wrong as a paper for the literal, or None."""
    check_known_literal(program, way, literal)
    check_paths(program, way)
    wanted = kept_paths(program, way)
    if not isinstance(paper, list):
        return 0
    for index, path in enumerate(wanted):
        if index == len(paper) or not is_item(program, path, opposite(literal), paper[index]):
            return index
    return len(wanted) if len(paper) > len(wanted) else None


def is_item(program, path, against, item):
    """Whether an object is a pair of the path and a tree that closes its facts with a further literal."""
    if not isinstance(item, tuple) or len(item) != 2 or not isinstance(item[0], tuple):
        return False
    if not all([is_number(step) for step in item[0]]) or item[0] != path:
        return False
    return closes(program, path, (against,), item[1])
