"""What is asked of arguments: beside a checked BOOK, which is passed as its table."""

from holekinds.books import check_kind, has_kind, is_empty, is_known_hole, is_whole_number, table_of
from holekinds.errors import InvalidHole, InvalidValue, NoSpot
from holekinds.making import kind_made, table_made
from holekinds.ways import way_to


def table_for(book, kind):
    """Tell the BOOK's table; refuse what is no BOOK, and what is no KIND of it."""
    table = table_of(book)
    check_kind(table, kind)
    return table


def table_for_hole(book, kind, hole):
    """Tell the BOOK's table; refuse what is no BOOK, no KIND of it, no HOLE of it."""
    table = table_for(book, kind)
    check_hole(table, hole)
    return table


def check_hole(table, hole):
    """Refuse what is no HOLE of the BOOK."""
    if not is_known_hole(table, hole):
        raise InvalidHole(hole)


def check_value(table, kind, value):
    """Refuse what is no value of the KIND."""
    if not has_kind(table, kind, value, is_whole_number):
        raise InvalidValue(value)


def check_shape(table, kind, shape):
    """Refuse what is no shape of the KIND."""
    if not has_kind(table, kind, shape, is_empty):
        raise InvalidValue(shape)


def check_context(table, kind, hole, context):
    """Refuse what is no context of the KIND by the HOLE."""
    check_value(table_made(table, hole), kind_made(kind, hole), context)


def spot_found(table, kind, hole, value, path):
    """Tell the way to the spot of the value and the part there; refuse what is no spot, whatever it is."""
    found = way_to(table, kind, hole, value, path) if is_path(path) else None
    if found is None:
        raise NoSpot(path)
    return found


def is_path(path):
    """Tell whether it is a tuple of whole numbers: True, which Python takes for 1, is none."""
    return type(path) == tuple and all([is_whole_number(index) for index in path])
