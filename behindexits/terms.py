"""Checks of literals and terms that are passed, where the terms must be known."""

from behindexits.errors import NoLiterals, NoName
from behindexits.words import is_literal


def check_literal(literal):
    if not is_literal(literal):
        raise NoLiterals(0)


def check_row(literals):
    """Check a tuple of literals."""
    if not isinstance(literals, tuple):
        raise NoLiterals(-1)
    for at, literal in enumerate(literals):
        if not is_literal(literal):
            raise NoLiterals(at)


def check_term(term, names):
    if not isinstance(term, str) or (term != "" and term not in names):
        raise NoName(term)


def check_terms(literal, names):
    """Check the two terms of a literal, the left one first."""
    check_term(literal[0], names)
    check_term(literal[1], names)
