"""A desk takes lines: books, a value that is edited, what is asked of them."""

from holekinds.books import is_known, is_known_hole, table_of
from holekinds.counts import counts, is_fair, number_of
from holekinds.editing import Editing
from holekinds.errors import InvalidBook, InvalidLine, InvalidNumber, InvalidText, InvalidValue
from holekinds.making import kind_made, table_made
from holekinds.reading import kind_read, name_read, number_read, pairs_read, single_read, value_read
from holekinds.steps import first_in
from holekinds.text import text_of_kind, text_of_value
from holekinds.tokens import reader_of
from holekinds.values import shape_of_value
from holekinds.ways import path_along, paths_to

DEEDS = ("next", "former", "first", "last", "out", "in", "undo")
QUESTIONS = ("here", "value", "shape", "context", "spots", "number")
ORDERS_WITH_REST = ("book", "edit", "put", "counts", "fair", "kind")


class Desk:
    """A BOOK, at first without names, and at times a value that is edited."""

    def __init__(self):
        self.book = ()
        self.table = {}
        self.editing = None

    def say(self, line):
        """Tell the answer to the line, a tuple of texts."""
        if type(line) != str:
            raise InvalidLine(line)
        order, blank, rest = line.partition(" ")
        if order not in (DEEDS + QUESTIONS if blank == "" else ORDERS_WITH_REST):
            return ("no such line",)
        if self.editing is None and order in DEEDS + QUESTIONS + ("put",):
            return ("nothing is edited",)
        if order == "spots":
            return self.spots_shown()
        return (self.answer_to(order, rest),)

    def edited(self):
        """Tell the KIND, the HOLE, the context and the part that are edited; None for nothing."""
        if self.editing is None:
            return None
        return self.editing.kind, self.editing.hole, self.editing.context(), self.editing.part

    def answer_to(self, order, rest):
        """Tell the one text that answers the order with the rest."""
        if order in DEEDS:
            return self.answer_to_deed(order)
        if order in QUESTIONS:
            return self.answer_to_question(order)
        try:
            return self.answer_to_rest(order, reader_of(rest))
        except InvalidText as refused:
            return f"bad text at {refused.line} {refused.column}"

    def answer_to_deed(self, order):
        """Do the deed, and tell where one is then."""
        if self.editing.does((order,)):
            return self.place()
        return "nothing to undo" if order == "undo" else "nowhere"

    def answer_to_question(self, order):
        """Tell what is asked of what is edited."""
        table, kind, value = self.table, self.editing.kind, self.editing.value()
        if order == "here":
            return self.place()
        if order == "value":
            return text_of_value(table, kind, value)
        if order == "context":
            hole = self.editing.hole
            return text_of_value(table_made(table, hole), kind_made(kind, hole), self.editing.context())
        shape = shape_of_value(table, kind, value)
        return text_of_value(table, kind, shape) if order == "shape" else self.numbers_shown(kind, shape)

    def answer_to_rest(self, order, reader):
        """Read the rest of the order, and tell what comes of it."""
        if order == "book":
            return self.take_book(reader)
        if order == "edit":
            return self.edit(reader)
        if order == "put":
            return self.put(reader)
        if order == "counts":
            return self.counts_shown(reader)
        return self.fairness_shown(reader) if order == "fair" else self.kind_shown(reader)

    def take_book(self, reader):
        """Take the BOOK, if it is one; nothing is edited then."""
        book = pairs_read(reader)
        try:
            table = table_of(book)
        except InvalidBook as refused:
            return "no book" if refused.index is None else f"no book at {book[refused.index][0]}"
        self.book, self.table, self.editing = book, table, None
        return "1 name" if len(book) == 1 else f"{len(book)} names"

    def edit(self, reader):
        """Edit the value of the KIND from now on, at its first cursor."""
        kind = kind_read(reader)
        if not is_known(self.table, kind):
            return "no kind"
        reader.expect_word("by")
        hole = single_read(reader)
        if not is_known_hole(self.table, hole):
            return "no hole"
        reader.expect(":")
        value = value_read(reader, self.table, kind)
        reader.expect("end")
        first = first_in(self.table, kind, hole, value)
        if first is None:
            return "no spot"
        self.editing = Editing(self.table, kind, hole, first)
        return self.place()

    def put(self, reader):
        """Put the part where one is."""
        part = value_read(reader, self.table, self.editing.hole)
        reader.expect("end")
        self.editing.does(("put", part))
        return self.place()

    def counts_shown(self, reader):
        """Tell how many shapes of the KIND there are with so many places and this size."""
        kind = kind_read(reader)
        if not is_known(self.table, kind):
            return "no kind"
        reader.expect(":")
        things = number_read(reader)
        reader.expect(",")
        size = number_read(reader)
        reader.expect("end")
        try:
            return str(counts(self.book, kind, things, size))
        except InvalidNumber:
            return "no such numbers"

    def fairness_shown(self, reader):
        """Tell whether the BOOK is fair for the KIND."""
        kind = kind_read(reader)
        if not is_known(self.table, kind):
            return "no kind"
        reader.expect("end")
        return "fair" if is_fair(self.book, kind) else "not fair"

    def kind_shown(self, reader):
        """Tell the KIND of the name."""
        name = name_read(reader)
        reader.expect("end")
        return text_of_kind(self.table[name]) if name in self.table else f"no name {name}"

    def numbers_shown(self, kind, shape):
        """Tell how many things the shape has, its size and its number."""
        try:
            things, size, number = number_of(self.book, kind, shape)
        except InvalidValue:
            return "too great"
        return f"things {things}, size {size}, number {number}"

    def spots_shown(self):
        """Tell the paths of all spots, one by one."""
        one = self.editing
        return tuple([path_shown(path) for path in paths_to(self.table, one.kind, one.hole, one.value())])

    def place(self):
        """Tell where one is: the path, and the part there."""
        path = path_shown(path_along(self.editing.way))
        return f"{path}: {text_of_value(self.table, self.editing.hole, self.editing.part)}"


def path_shown(path):
    """Tell the text of the path."""
    return "whole" if path == () else ".".join([str(index) for index in path])
