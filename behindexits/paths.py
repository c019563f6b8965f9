"""Paths: the ways through a program by form, and what is known along each."""

from behindexits.errors import TooMany
from behindexits.routes import block_counts, block_routes
from behindexits.traces import trace_of
from behindexits.ways import check_way

MOST_PATHS = 500


def check_paths(program, way):
    """Check that there are not too many paths to a way."""
    if "counts" not in program.kept:
        program.kept["counts"] = block_counts(program.block)
    if program.kept["counts"][way] > MOST_PATHS:
        raise TooMany(MOST_PATHS)


def paths(program, way):
    """All paths that lead to a way, in ascending order."""
    check_way(program, way)
    check_paths(program, way)
    return list(kept_paths(program, way))


def kept_paths(program, way):
    """All paths that lead to a way that has not too many."""
    key = ("paths", way)
    if key not in program.kept:
        program.kept[key] = tuple([decisions for decisions, last in block_routes(program.block, {way: True})])
    return program.kept[key]


def way_of(program, path):
    """The way to which a path leads."""
    return trace_of(program, path).way[:2]


def along(program, path):
    """The names that have a value on a path."""
    return sorted(trace_of(program, path).names, key=str)


def facts_of(program, path):
    """The facts of a path, in the order in which it goes through the statements."""
    return list(trace_of(program, path).facts)
