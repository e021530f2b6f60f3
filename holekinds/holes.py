"""Kinds by holes, spots, contexts: marking, filling, and what a value measures."""

from holekinds.books import table_of
from holekinds.checks import check_context, check_hole, check_value, spot_found, table_for, table_for_hole
from holekinds.making import kind_made, table_made
from holekinds.values import size_of, things_of
from holekinds.ways import context_along, path_along, paths_to, value_along, way_of


def kind_by(book, kind, hole):
    """Tell the KIND by the HOLE, however great it is."""
    table_for_hole(book, kind, hole)
    return kind_made(kind, hole)


def book_by(book, hole):
    """Tell the BOOK by the HOLE, however great it is."""
    table = table_of(book)
    check_hole(table, hole)
    return tuple(sorted(table_made(table, hole).items(), key=lambda row: row[0]))


def spots(book, kind, hole, value):
    """Tell the paths of all spots of the HOLE in the value, in order."""
    table = table_for_hole(book, kind, hole)
    check_value(table, kind, value)
    return tuple(paths_to(table, kind, hole, value))


def mark(book, kind, hole, value, path):
    """Tell the context and the part of the spot of the value."""
    table = table_for_hole(book, kind, hole)
    check_value(table, kind, value)
    way, part = spot_found(table, kind, hole, value, path)
    return context_along(way, hole), part


def fill(book, kind, hole, context, part):
    """Tell the value that comes of the context with the part."""
    table = table_for_hole(book, kind, hole)
    check_context(table, kind, hole, context)
    check_value(table, hole, part)
    return value_along(way_of(table, kind, hole, context), part)


def spot_of(book, kind, hole, context):
    """Tell the path of the spot by the context alone."""
    table = table_for_hole(book, kind, hole)
    check_context(table, kind, hole, context)
    return path_along(way_of(table, kind, hole, context))


def size(book, kind, value):
    """Tell how many names are unfolded in the value."""
    table = table_for(book, kind)
    check_value(table, kind, value)
    return size_of(table, kind, value)


def things(book, kind, value):
    """Tell how many things the value has."""
    table = table_for(book, kind)
    check_value(table, kind, value)
    return things_of(table, kind, value)
