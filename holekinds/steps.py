"""Steps from cursor to cursor, a cursor being told by the way to it and its part.

Each step looks at what is beside the way and within the part alone, never at the whole.
"""

from holekinds.books import unfolded
from holekinds.ways import kind_behind, paths_to, value_around, way_to


def first_in(table, kind, hole, value):
    """Tell the first cursor in the value; None if there is none."""
    paths = paths_to(table, kind, hole, value)
    return way_to(table, kind, hole, value, paths[0]) if paths else None


def last_in(table, kind, hole, value):
    """Tell the last cursor in the value; None if there is none."""
    paths = paths_to(table, kind, hole, value)
    return way_to(table, kind, hole, value, paths[-1]) if paths else None


def first_below(table, hole, way, part):
    """Tell the first cursor within the part of a cursor; None if there is none."""
    if hole[0] != "name":
        return None
    found = first_in(table, table[hole[1]], hole, part)
    return None if found is None else (way + [("within", None)] + found[0], found[1])


def next_behind(table, kind, hole, way, part):
    """Tell the next cursor; None if there is none."""
    below = first_below(table, hole, way, part)
    if below is not None:
        return below
    kinds = kinds_along(table, kind, way)
    value = part
    for at in reversed(range(len(way))):
        word, beside = way[at]
        if word == "first":
            found = first_in(table, kinds[at][2], hole, beside)
            if found is not None:
                return way[:at] + [("second", value)] + found[0], found[1]
        value = value_around(way[at], value)
    return None


def former_ahead(table, kind, hole, way, part):
    """Tell the former cursor; None if there is none."""
    kinds = kinds_along(table, kind, way)
    value = part
    for at in reversed(range(len(way))):
        word, beside = way[at]
        if word == "within":
            return way[:at], value
        if word == "second":
            found = last_in(table, kinds[at][1], hole, beside)
            if found is not None:
                return way[:at] + [("first", value)] + found[0], found[1]
        value = value_around(way[at], value)
    return None


def nearest_around(way, part):
    """Tell the cursor of the nearest part that has this one within; None if there is none."""
    value = part
    for at in reversed(range(len(way))):
        if way[at][0] == "within":
            return way[:at], value
        value = value_around(way[at], value)
    return None


def kinds_along(table, kind, way):
    """List the KINDs that the steps of the way go into, one for each step.

    A step into a name goes nowhere else: its KIND is unfolded by the step behind it.
    """
    kinds = []
    for word, _ in way:
        kinds.append(unfolded(table, kind))
        kind = kind if word == "within" else kind_behind(word, kinds[-1])
    return kinds
