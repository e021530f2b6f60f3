"""Folds: rules beside kinds, and what they tell of values, and of contexts around a part."""

from holekinds.answers import end_told, fold_told, frames_around
from holekinds.books import is_whole_number, table_of
from holekinds.checks import check_context, check_hole, check_value
from holekinds.errors import InvalidAlgebra, InvalidNumber
from holekinds.kinds import parts_known
from holekinds.making import THING
from holekinds.rules import has_rule, rules_of, tables_for, tables_for_rule


def is_rule(kind, value):
    """Tell whether the value, whatever it is, is a rule beside the KIND."""
    parts_known(kind)
    return has_rule(kind, value)


def is_algebra(book, value):
    """Tell whether the value, whatever it is, is an algebra beside the BOOK."""
    table_of(book)
    try:
        rules_of(book, value)
    except InvalidAlgebra:
        return False
    return True


def fold(book, algebra, kind, rule, value):
    """Tell what the fold of the rule tells of the value."""
    table, rules = tables_for_rule(book, algebra, kind, rule)
    check_value(table, kind, value)
    return fold_told(table, rules, kind, rule, value)


def fold_of_part(book, algebra, hole, part):
    """Tell the number of the part on which alone all hangs that is told around it."""
    table, rules = tables_for(book, algebra)
    check_hole(table, hole)
    check_value(table, hole, part)
    if hole == THING:
        return part
    return fold_told(table, rules, table[hole[1]], rules[hole[1]], part)


def fold_around(book, algebra, kind, rule, hole, context, number):
    """Tell what the fold of the rule tells of the context with this number in the part's place."""
    table, rules = tables_for_rule(book, algebra, kind, rule)
    check_hole(table, hole)
    check_context(table, kind, hole, context)
    if not is_whole_number(number):
        raise InvalidNumber(number)
    frames, one = frames_around(table, rules, kind, rule, hole, context)
    return end_told(table, rules, one[1] * number + one[2], frames)
