"""Texts of KINDs, BOOKs, values and shapes: read, and shown."""

from holekinds.books import table_of, unfolded
from holekinds.checks import check_shape, check_value, table_for
from holekinds.errors import InvalidKind
from holekinds.kinds import is_kind
from holekinds.reading import kind_read, pairs_read, shape_read, value_read
from holekinds.tokens import reader_of
from holekinds.values import kind_on_side


def read_kind(text):
    """Tell the KIND of the text."""
    reader = reader_of(text)
    kind = kind_read(reader)
    reader.expect("end")
    if not is_kind(kind):
        raise InvalidKind(text)
    return kind


def read_book(text):
    """Tell the BOOK of the text, whose pairs may stand in any order."""
    book = pairs_read(reader_of(text))
    table_of(book)
    return book


def read_value(book, kind, text):
    """Tell the value of the KIND that the text tells."""
    table = table_for(book, kind)
    reader = reader_of(text)
    value = value_read(reader, table, kind)
    reader.expect("end")
    return value


def read_shape(book, kind, text):
    """Tell the shape of the KIND that the text tells."""
    table = table_for(book, kind)
    reader = reader_of(text)
    shape = shape_read(reader, table, kind)
    reader.expect("end")
    return shape


def show_kind(kind):
    """Tell the text of the KIND."""
    if not is_kind(kind):
        raise InvalidKind(kind)
    return text_of_kind(kind)


def show_book(book):
    """Tell the text of the BOOK, a line for each pair."""
    table_of(book)
    return "\n".join([f"{name} = {text_of_kind(kind)};" for name, kind in book])


def show_value(book, kind, value):
    """Tell the text of the value of the KIND."""
    table = table_for(book, kind)
    check_value(table, kind, value)
    return text_of_value(table, kind, value)


def show_shape(book, kind, shape):
    """Tell the text of the shape of the KIND."""
    table = table_for(book, kind)
    check_shape(table, kind, shape)
    return text_of_value(table, kind, shape)


def text_of_kind(kind):
    """Tell the text of the KIND: a | takes all on its left, so an either on its right is in brackets."""
    word = kind[0]
    if word == "name":
        return kind[1]
    if word == "pair":
        return f"({text_of_kind(kind[1])}, {text_of_kind(kind[2])})"
    if word == "either" and kind[2][0] == "either":
        return f"{text_of_kind(kind[1])} | ({text_of_kind(kind[2])})"
    if word == "either":
        return f"{text_of_kind(kind[1])} | {text_of_kind(kind[2])}"
    return word


def text_of_value(table, kind, value):
    """Tell the text of the value, or of the shape, of the KIND.

    What is still to be shown waits: texts, and pairs of a KIND and a value of it.
    """
    told = []
    waiting = [(kind, value)]
    while waiting:
        coming = waiting.pop()
        if type(coming) == str:
            told.append(coming)
        else:
            waiting.extend(shown_next(unfolded(table, coming[0]), coming[1]))
    return "".join(told)


def shown_next(kind, value):
    """List what is to be shown of the value of the KIND, the last one first."""
    word = kind[0]
    if word == "thing":
        return ["*" if value == () else str(value)]
    if word == "unit":
        return ["()"]
    if word == "pair":
        return [")", (kind[2], value[2]), ", ", (kind[1], value[1]), "("]
    return [")", (kind_on_side(kind, value[0]), value[1]), value[0] + "("]
