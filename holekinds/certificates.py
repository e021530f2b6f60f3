"""Claims with the papers that show them."""

from holekinds.books import table_of
from holekinds.checks import check_context, check_hole, is_path
from holekinds.counts import counts, is_fair, number_of
from holekinds.endless import endless_paper
from holekinds.errors import InvalidBook, NoSpot
from holekinds.folds import fold_around, fold_of_part
from holekinds.holes import mark, spots
from holekinds.kinds import is_written
from holekinds.loops import rounds_of
from holekinds.rules import tables_for_rule


def certify_spot(book, kind, hole, value, path):
    """Tell that the path is a spot of the value, or that it is none."""
    told = spots(book, kind, hole, value)
    if not is_path(path):
        raise NoSpot(path)
    return ("spot" if path in told else "no spot", book, kind, hole, value, path), ()


def certify_mark(book, kind, hole, value, path):
    """Tell what marking tells."""
    context, part = mark(book, kind, hole, value, path)
    return ("marked", book, kind, hole, value, path, context, part), ()


def certify_counts(book, kind, things, size):
    """Tell how many shapes there are."""
    return ("counts", book, kind, things, size, counts(book, kind, things, size)), ()


def certify_number(book, kind, shape):
    """Tell how many things the shape has, its size and its number."""
    things, size, number = number_of(book, kind, shape)
    return ("numbered", book, kind, shape, things, size, number), ()


def certify_finite(book, kind):
    """Tell that for each number of places there are finitely many shapes, or why there are not."""
    fair = is_fair(book, kind)
    for at, (name, _) in enumerate(book):
        if not is_written(name):
            raise InvalidBook(at)
    if fair:
        return ("finite", book, kind), ()
    return ("endless", book, kind), endless_paper(table_of(book), kind)


def certify_folds(book, algebra, kind, rule, hole, context, part, second):
    """Tell that the fold tells the same of both parts, or that the context shows them apart.

    None if their numbers are unlike, but the context does not show it.
    """
    table, _ = tables_for_rule(book, algebra, kind, rule)
    check_hole(table, hole)
    check_context(table, kind, hole, context)
    things = (book, algebra, kind, rule, hole, part, second)
    one = fold_of_part(book, algebra, hole, part)
    other = fold_of_part(book, algebra, hole, second)
    if one == other:
        return ("folds alike",) + things, ()
    told = fold_around(book, algebra, kind, rule, hole, context, one)
    if told == fold_around(book, algebra, kind, rule, hole, context, other):
        return None
    return ("folds apart",) + things, context


def certify_loop(book, kind, value):
    """Tell how many rounds the loop makes at the value, whatever the rules are."""
    return ("loops", book, kind, value, rounds_of(book, kind, value)), ()
