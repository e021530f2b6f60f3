"""Cursors: pairs of a context and a part, steps from one to the other, contexts in contexts, deeds."""

from holekinds.checks import check_context, check_value, table_for_hole
from holekinds.editing import Editing, check_deeds
from holekinds.errors import InvalidHole
from holekinds.making import THING
from holekinds.steps import first_below, former_ahead, nearest_around, next_behind
from holekinds.ways import context_along, paths_to, way_of, way_to


def cursors(book, kind, hole, value):
    """Tell all cursors in the value, in order."""
    table = table_for_hole(book, kind, hole)
    check_value(table, kind, value)
    found = [way_to(table, kind, hole, value, path) for path in paths_to(table, kind, hole, value)]
    return tuple([cursor_shown(hole, one) for one in found])


def next_one(book, kind, hole, context, part):
    """Tell the next cursor, by the context and the part alone; None if there is none."""
    table, way = table_and_way(book, kind, hole, context, part)
    return cursor_shown(hole, next_behind(table, kind, hole, way, part))


def former_one(book, kind, hole, context, part):
    """Tell the former cursor, by the context and the part alone; None if there is none."""
    table, way = table_and_way(book, kind, hole, context, part)
    return cursor_shown(hole, former_ahead(table, kind, hole, way, part))


def out_of(book, kind, hole, context, part):
    """Tell the cursor of the nearest part that has this one within; None if there is none."""
    _, way = table_and_way(book, kind, hole, context, part)
    return cursor_shown(hole, nearest_around(way, part))


def first_within(book, kind, hole, context, part):
    """Tell the first cursor within the part; None if there is none."""
    table, way = table_and_way(book, kind, hole, context, part)
    return cursor_shown(hole, first_below(table, hole, way, part))


def context_within(book, kind, hole, context, inner):
    """Tell the context that has the inner one, of the HOLE by itself, in the spot of the other one."""
    table = table_for_hole(book, kind, hole)
    if hole == THING:
        raise InvalidHole(hole)
    check_context(table, kind, hole, context)
    check_context(table, hole, hole, inner)
    way = way_of(table, kind, hole, context) + way_of(table, hole, hole, inner)
    return context_along(way, hole)


def behind_deeds(book, kind, hole, context, part, deeds):
    """Tell the cursor behind the deeds, done one behind the other."""
    table, way = table_and_way(book, kind, hole, context, part)
    check_deeds(table, hole, deeds)
    editing = Editing(table, kind, hole, (way, part))
    for deed in deeds:
        editing.does(deed)
    return editing.context(), editing.part


def table_and_way(book, kind, hole, context, part):
    """Tell the BOOK's table and the way that the context keeps; refuse what is none of the arguments."""
    table = table_for_hole(book, kind, hole)
    check_context(table, kind, hole, context)
    check_value(table, hole, part)
    return table, way_of(table, kind, hole, context)


def cursor_shown(hole, found):
    """Tell the pair of the context and the part of a cursor found; None if none was found."""
    return None if found is None else (context_along(found[0], hole), found[1])
