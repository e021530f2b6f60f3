"""Two holes: spots that are apart, contexts with two holes, which hole is made first."""

from holekinds.checks import check_hole, check_value, spot_found, table_for_hole
from holekinds.errors import NotApart
from holekinds.forks import fork_at, fork_kept, indexes_in_common, paths_of_fork, turned, two_along, value_of_fork
from holekinds.making import kind_made, table_made


def mark_two(book, kind, hole, other, value, path, second):
    """Tell the context with two holes, the part of the hole and that of the other one."""
    table = table_for_holes(book, kind, hole, other)
    check_value(table, kind, value)
    way, part = spot_found(table, kind, hole, value, path)
    later, second_part = spot_found(table, kind, other, value, second)
    many = indexes_in_common(path, second)
    if many in (len(path), len(second)):
        raise NotApart(second)
    return two_along(table, kind, hole, other, fork_at(way, later, many)), part, second_part


def fill_two(book, kind, hole, other, two, part, second_part):
    """Tell the value that comes of the context with two holes with both parts."""
    table = table_for_two(book, kind, hole, other, two)
    check_value(table, hole, part)
    check_value(table, other, second_part)
    return value_of_fork(fork_kept(table, kind, hole, other, two), part, second_part)


def spots_of_two(book, kind, hole, other, two):
    """Tell the paths of both spots in the value, by the context alone."""
    table = table_for_two(book, kind, hole, other, two)
    return paths_of_fork(fork_kept(table, kind, hole, other, two))


def turned_about(book, kind, hole, other, two):
    """Tell the context with two holes in which the other one is made first."""
    table = table_for_two(book, kind, hole, other, two)
    return two_along(table, kind, other, hole, turned(fork_kept(table, kind, hole, other, two)))


def table_for_holes(book, kind, hole, other):
    """Tell the BOOK's table; refuse what is none of the arguments."""
    table = table_for_hole(book, kind, hole)
    check_hole(table, other)
    return table


def table_for_two(book, kind, hole, other, two):
    """Tell the BOOK's table; refuse what is none of the arguments."""
    table = table_for_holes(book, kind, hole, other)
    made = table_made(table_made(table, hole), other)
    check_value(made, kind_made(kind_made(kind, hole), other), two)
    return table
