"""BOOKs, their HOLEs, and the values and shapes of their KINDs.

The functions that work on a checked BOOK take its table, a dict of its KINDs by their NAMEs.
"""

from holekinds.errors import InvalidBook, InvalidKind, InvalidName
from holekinds.kinds import is_kind, is_name, is_written, names_among, parts_found
from holekinds.making import NONE, kind_made, made_of

MOST_NAMES = 80


def is_book(value):
    """Tell whether the value, whatever it is, is a BOOK."""
    try:
        table_of(value)
    except InvalidBook:
        return False
    return True


def kind_named(book, name):
    """Tell the KIND of the name in the BOOK; None if the BOOK has not the name."""
    table = table_of(book)
    if not is_name(name):
        raise InvalidName(name)
    return table.get(name)


def does_know(book, value):
    """Tell whether the value, whatever it is, is a KIND all of whose names the BOOK has."""
    return is_known(table_of(book), value)


def is_hole(book, value):
    """Tell whether the value, whatever it is, is a HOLE of the BOOK."""
    return is_known_hole(table_of(book), value)


def is_value(book, kind, value):
    """Tell whether the value, whatever it is, is one of the KIND."""
    table = table_of(book)
    check_kind(table, kind)
    return has_kind(table, kind, value, is_whole_number)


def is_shape(book, kind, value):
    """Tell whether the value, whatever it is, is a shape of the KIND."""
    table = table_of(book)
    check_kind(table, kind)
    return has_kind(table, kind, value, is_empty)


def table_of(book):
    """Tell the BOOK's KINDs by their NAMEs; refuse what is no BOOK."""
    check_pairs(book)
    table = dict(book)
    for at, (name, kind) in enumerate(book):
        if not is_known(table, kind):
            raise InvalidBook(at)
    for at, (name, kind) in enumerate(book):
        if not is_made_by_rules(table, name):
            raise InvalidBook(at)
    return table


def check_pairs(book):
    """Refuse what is no tuple of ascending pairs of a name and a KIND."""
    if type(book) != tuple or len(book) > MOST_NAMES:
        raise InvalidBook(None)
    ahead = ""
    for at, row in enumerate(book):
        if not is_pair_above(ahead, row):
            raise InvalidBook(at)
        ahead = row[0]


def is_pair_above(ahead, row):
    """Tell whether the row is a pair of a name above the one ahead and a KIND."""
    if type(row) != tuple or len(row) != 2:
        return False
    return is_name(row[0]) and row[0] > ahead and is_kind(row[1])


def is_made_by_rules(table, name):
    """Tell whether the name, if it is one by a hole, has the KIND that the rules make."""
    if is_written(name):
        return True
    stem, hole = made_of(name)
    if stem not in table or not is_known_hole(table, hole):
        return False
    return table[name] == kind_made(table[stem], hole)


def check_kind(table, kind):
    """Refuse what is no KIND all of whose names the BOOK has."""
    if not is_known(table, kind):
        raise InvalidKind(kind)


def is_known(table, value):
    """Tell whether the value is a KIND all of whose names the BOOK has."""
    parts = parts_found(value)
    return parts is not None and all([name in table for name in names_among(parts)])


def is_known_hole(table, value):
    """Tell whether the value is a HOLE of the BOOK: a KIND, the thing or a name as written."""
    if not is_known(table, value):
        return False
    return value[0] == "thing" or (value[0] == "name" and is_written(value[1]))


def is_whole_number(value):
    """Tell whether the value is a whole number; True and False are none."""
    return type(value) == int


def is_empty(value):
    """Tell whether the value is (), the place of a thing in a shape."""
    return type(value) == tuple and len(value) == 0


def has_kind(table, kind, value, is_thing):
    """Tell whether the value has the KIND; is_thing tells what may stand at things."""
    waiting = [(kind, value)]
    while waiting:
        part_kind, part = waiting.pop()
        inner = parts_within(unfolded(table, part_kind), part, is_thing)
        if inner is None:
            return False
        waiting.extend(inner)
    return True


def unfolded(table, kind):
    """Tell the KIND that a name stands for in the end, by however many names.

    Names that stand for one another alone lead to no KIND but names again: none is told in
    their place, as they have no value either.
    """
    for _ in range(len(table) + 1):
        if kind[0] != "name":
            return kind
        kind = table[kind[1]]
    return NONE


def parts_within(kind, value, is_thing):
    """Tell the pairs of a KIND and what should be its value that are left; None for no value."""
    word = kind[0]
    if word == "thing":
        return () if is_thing(value) else None
    if word == "none" or type(value) != tuple:
        return None
    if word == "unit":
        return () if is_empty(value) else None
    if word == "pair" and is_row_of("pair", 3, value):
        return (kind[1], value[1]), (kind[2], value[2])
    if word == "either" and is_row_of("left", 2, value):
        return ((kind[1], value[1]),)
    if word == "either" and is_row_of("right", 2, value):
        return ((kind[2], value[1]),)
    return None


def is_row_of(word, many, row):
    """Tell whether the tuple has so many elements, the word being the first one."""
    return len(row) == many and type(row[0]) == str and row[0] == word
