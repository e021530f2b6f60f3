"""The checker: whether a paper shows that a claim is so.

What a claim tells is asked of the functions that it names: what these refuse is no claim. What they
tell is compared sort by sort, as Python takes True for 1.
"""

from holekinds.books import does_know, has_kind, is_empty, is_whole_number
from holekinds.checks import check_hole, is_path, table_for
from holekinds.counts import counts, is_fair, number_of
from holekinds.cursors import behind_deeds, cursors
from holekinds.errors import HoleError
from holekinds.folds import fold, fold_around, fold_of_part, is_rule
from holekinds.holes import fill, mark, spots
from holekinds.kinds import is_written
from holekinds.loops import rounds_of
from holekinds.making import kind_made, table_made
from holekinds.twoholes import turned_about
from holekinds.values import things_of


def is_spot(book, kind, hole, value, path):
    """Tell whether the path is a spot of the value."""
    told = spots(book, kind, hole, value)
    return is_path(path) and path in told


def is_no_spot(book, kind, hole, value, path):
    """Tell whether the path is a tuple of whole numbers, and no spot of the value."""
    told = spots(book, kind, hole, value)
    return is_path(path) and path not in told


def is_marked(book, kind, hole, value, path, context, part):
    """Tell whether marking tells this context and this part."""
    return is_same(mark(book, kind, hole, value, path), (context, part))


def are_so_many(book, kind, things, size, many):
    """Tell whether there are so many shapes."""
    return is_same(counts(book, kind, things, size), many)


def is_numbered(book, kind, shape, things, size, number):
    """Tell whether the shape has so many things, this size and this number."""
    return is_same(number_of(book, kind, shape), (things, size, number))


def is_finite(book, kind):
    """Tell whether for each number of places there are finitely many shapes."""
    return is_fair(book, kind) and is_as_written(book)


def is_endless(paper, book, kind):
    """Tell whether the paper shows shapes without end that have the same number of places."""
    table = table_for(book, kind)
    if not is_as_written(book) or type(paper) != tuple or len(paper) != 4:
        return False
    name, context, inner, part = paper
    hole = ("name", name)
    check_hole(table, hole)
    made, itself = table_made(table, hole), kind_made(hole, hole)
    if not has_kind(made, itself, inner, is_empty) or inner[0] == "left" or things_of(made, itself, inner) > 0:
        return False
    return has_kind(made, kind_made(kind, hole), context, is_empty) and has_kind(table, hole, part, is_empty)


def has_cursors(book, kind, hole, value, many):
    """Tell whether the value has so many cursors."""
    return is_same(len(cursors(book, kind, hole, value)), many)


def is_led(book, kind, hole, value, deeds, other):
    """Tell whether the deeds lead from the value's first cursor to a cursor of the other value."""
    found = cursors(book, kind, hole, value)
    if len(found) == 0:
        return False
    context, part = found[0]
    context, part = behind_deeds(book, kind, hole, context, part, deeds)
    return is_same(fill(book, kind, hole, context, part), other)


def is_turned_about(book, kind, hole, other, two, later):
    """Tell whether turning about tells the later one."""
    return is_same(turned_about(book, kind, hole, other, two), later)


def does_fold_to(book, algebra, kind, rule, value, number):
    """Tell whether the fold tells the number."""
    return is_same(fold(book, algebra, kind, rule, value), number)


def do_fold_alike(book, algebra, kind, rule, hole, part, second):
    """Tell whether the fold tells the same of both parts, so that no context shows them apart."""
    if not does_know(book, kind) or not is_rule(kind, rule):
        return False
    return fold_of_part(book, algebra, hole, part) == fold_of_part(book, algebra, hole, second)


def do_fold_apart(paper, book, algebra, kind, rule, hole, part, second):
    """Tell whether the paper is a context of which the fold tells unlike numbers with both parts."""
    one = fold_of_part(book, algebra, hole, part)
    other = fold_of_part(book, algebra, hole, second)
    told = fold_around(book, algebra, kind, rule, hole, paper, one)
    return told != fold_around(book, algebra, kind, rule, hole, paper, other)


def does_loop(book, kind, value, rounds):
    """Tell whether the loop makes so many rounds at the value."""
    return is_same(rounds_of(book, kind, value), rounds)


def is_as_written(book):
    """Tell whether all names of the BOOK are as written."""
    return all([is_written(name) for name, _ in book])


def is_same(told, given):
    """Tell whether what is given, whatever it is, is what was told: tuples, texts, whole numbers."""
    waiting = [(told, given)]
    while waiting:
        one, other = waiting.pop()
        if type(one) == tuple:
            if type(other) != tuple or len(other) != len(one):
                return False
            waiting.extend(list(zip(one, other)))
        elif type(one) == str:
            if type(other) != str or other != one:
                return False
        elif not is_whole_number(other) or other != one:
            return False
    return True


# How many things stand behind the word of a claim.
THINGS = {
    "spot": 5, "no spot": 5, "marked": 7, "counts": 5, "numbered": 6, "finite": 2, "endless": 2, "cursors": 5,
    "led": 6, "turned about": 6, "folds to": 6, "folds alike": 7, "folds apart": 7, "loops": 4}
SHOWN = {
    "spot": is_spot, "no spot": is_no_spot, "marked": is_marked, "counts": are_so_many, "numbered": is_numbered,
    "finite": is_finite, "cursors": has_cursors, "led": is_led, "turned about": is_turned_about,
    "folds to": does_fold_to, "folds alike": do_fold_alike, "loops": does_loop}
SHOWN_BY_PAPER = {"endless": is_endless, "folds apart": do_fold_apart}


def accepts(claim, paper):
    """Tell whether the paper shows that the claim is so, whatever both are."""
    if type(claim) != tuple or len(claim) == 0 or type(claim[0]) != str:
        return False
    word, things = claim[0], claim[1:]
    if word not in THINGS or len(things) != THINGS[word]:
        return False
    try:
        return does_show(word, things, paper)
    except HoleError:
        return False


def does_show(word, things, paper):
    """Tell whether the paper shows what the claim's word says of the things."""
    if word in SHOWN_BY_PAPER:
        shows = SHOWN_BY_PAPER[word]
        return shows(paper, *things)
    shows = SHOWN[word]
    return is_empty(paper) and shows(*things)
