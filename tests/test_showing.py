import itertools
import unittest

from holekinds import text as module
from holekinds.errors import InvalidBook, InvalidKind, InvalidValue
from holekinds.holes import book_by, kind_by
from holekinds.text import (
    read_book, read_kind, read_shape, read_value, show_book, show_kind, show_shape, show_value)
from tests import reference
from tests.samples import (
    BOXES, NONE, ROW, ROWS, ROWS_BY_ALL, ROWS_BY_THING, SAMPLES, THING, TREES, UNIT, deep_kind, either,
    holes_of, name, nested, odd_things, pair, wide_kind)

LEAF = ("left", ())


class TestKinds(unittest.TestCase):
    def test_each_form(self):
        told = [
            (THING, "thing"), (NONE, "none"), (UNIT, "unit"), (name("Row''Row"), "Row''Row"),
            (pair(THING, UNIT), "(thing, unit)"), (either(THING, UNIT), "thing | unit"),
            (either(either(THING, UNIT), NONE), "thing | unit | none"),
            (either(THING, either(UNIT, NONE)), "thing | (unit | none)"),
            (either(either(THING, UNIT), either(NONE, UNIT)), "thing | unit | (none | unit)"),
            (either(THING, either(UNIT, either(NONE, UNIT))), "thing | (unit | (none | unit))"),
            (either(THING, either(either(UNIT, NONE), UNIT)), "thing | (unit | none | unit)"),
            (pair(either(THING, UNIT), either(UNIT, either(NONE, UNIT))), "(thing | unit, unit | (none | unit))"),
            (pair(pair(THING, UNIT), pair(NONE, THING)), "((thing, unit), (none, thing))"),
            (either(pair(THING, UNIT), pair(UNIT, THING)), "(thing, unit) | (unit, thing)"),
            (ROW, "unit | (thing, Row)")]
        for kind, text in told:
            self.assertEqual(show_kind(kind), text)
            self.assertEqual(read_kind(text), kind)

    def test_read_again_it_tells_the_same(self):
        kinds = [THING, UNIT, NONE, name("Row")]
        for _ in range(2):
            kinds = kinds[:7] + [make(one, two) for make in (pair, either) for one, two in
                                 itertools.product(kinds[:9] + kinds[-9:], repeat=2)]
        kinds += [deep_kind(30), wide_kind(1999), nested(UNIT, lambda kind: either(kind, THING), 29)]
        kinds += [kind_by(book, kind, hole) for book, kind in SAMPLES for hole in holes_of(book)]
        for kind in kinds:
            self.assertEqual(read_kind(show_kind(kind)), kind)

    def test_no_kinds(self):
        for thing in odd_things() + [deep_kind(31), wide_kind(2001), pair(THING, ["thing"])]:
            with self.assertRaises(InvalidKind) as held:
                show_kind(thing)
            self.assertIs(held.exception.given, thing)


class TestBooks(unittest.TestCase):
    def test_some(self):
        self.assertEqual(show_book(()), "")
        self.assertEqual(show_book(ROWS), "Row = unit | (thing, Row);")
        self.assertEqual(show_book(BOXES), "Box = Row;\nRow = (Box, thing) | unit;\nTwin = Box;")
        self.assertEqual(
            show_book(ROWS_BY_THING),
            "Row = unit | (thing, Row);\nRow' = none | ((unit, Row) | (thing, Row'));")

    def test_read_again_it_tells_the_same(self):
        for book, kind in SAMPLES:
            self.assertEqual(read_book(show_book(book)), book)
            for hole in holes_of(book):
                self.assertEqual(read_book(show_book(book_by(book, hole))), book_by(book, hole))
        long = tuple(("N" + str(at).zfill(2), deep_kind(30)) for at in range(80))
        self.assertEqual(read_book(show_book(long)), long)

    def test_no_books(self):
        for book, index in [(None, None), ([], None), ((("B", UNIT), ("A", UNIT)), 1), ((("A", name("B")),), 0),
                            ((("A", UNIT), ("A'", UNIT)), 1)]:
            with self.assertRaises(InvalidBook) as held:
                show_book(book)
            self.assertEqual(held.exception.index, index)


class TestValues(unittest.TestCase):
    def test_each_form(self):
        told = [
            ((), THING, 5, "5"), ((), THING, 0, "0"), ((), THING, -17, "-17"), ((), UNIT, (), "()"),
            ((), pair(THING, UNIT), ("pair", 5, ()), "(5, ())"), ((), either(THING, UNIT), ("left", 5), "left(5)"),
            ((), either(THING, UNIT), ("right", ()), "right(())"), (ROWS, name("Row"), LEAF, "left(())"),
            ((), either(UNIT, pair(THING, THING)), ("right", ("pair", 1, 2)), "right((1, 2))"),
            ((), pair(pair(THING, UNIT), THING), ("pair", ("pair", 1, ()), 2), "((1, ()), 2)"),
            (ROWS, name("Row"), ("right", ("pair", 5, ("right", ("pair", 9, LEAF)))), "right((5, right((9, left(())))))"),
            (ROWS_BY_ALL, name("Row'"),
             ("right", ("right", ("pair", 5, ("right", ("left", ("pair", (), LEAF)))))),
             "right(right((5, right(left(((), left(())))))))")]
        for book, kind, value, text in told:
            self.assertEqual(show_value(book, kind, value), text)
            self.assertEqual(read_value(book, kind, text), value)

    def test_shapes(self):
        told = [
            ((), THING, (), "*"), ((), UNIT, (), "()"), ((), pair(THING, UNIT), ("pair", (), ()), "(*, ())"),
            ((), either(THING, UNIT), ("left", ()), "left(*)"), ((), either(THING, UNIT), ("right", ()), "right(())"),
            (ROWS, name("Row"), ("right", ("pair", (), ("right", ("pair", (), LEAF)))), "right((*, right((*, left(())))))")]
        for book, kind, shape, text in told:
            self.assertEqual(show_shape(book, kind, shape), text)
            self.assertEqual(read_shape(book, kind, text), shape)

    def test_great_numbers(self):
        for figures in [1, 20, 399, 400]:
            for number in [10 ** (figures - 1), 10 ** figures - 1]:
                self.assertEqual(show_value((), THING, number), str(number))
                self.assertEqual(read_value((), THING, show_value((), THING, number)), number)
                self.assertEqual(read_value((), THING, show_value((), THING, -number)), -number)

    def test_read_again_it_tells_the_same(self):
        for book, kind in SAMPLES:
            for there, at in itertools.product(range(3), range(5)):
                for shape in reference.shapes(book, kind, there, at):
                    self.assertEqual(read_shape(book, kind, show_shape(book, kind, shape)), shape)
                    value = reference.with_things(book, kind, shape, -1)
                    self.assertEqual(read_value(book, kind, show_value(book, kind, value)), value)

    def test_tall_values(self):
        idle = (("Idle", either(UNIT, name("Idle"))),)
        tall = nested(LEAF, lambda told: ("right", told), 199)
        text = "right(" * 199 + "left(())" + ")" * 199
        self.assertEqual(show_value(idle, name("Idle"), tall), text)
        self.assertEqual(show_shape(idle, name("Idle"), tall), text)
        row = nested(LEAF, lambda told: ("right", ("pair", 3, told)), 99)
        self.assertEqual(show_value(ROWS, ROW, row), "right((3, " * 99 + "left(())" + "))" * 99)

    def test_no_values(self):
        for thing in [one for one in odd_things() if type(one) is not int]:
            for call in [show_value, show_shape]:
                with self.assertRaises(InvalidValue) as held:
                    call(TREES, name("Tree"), thing)
                self.assertIs(held.exception.given, thing)
        with self.assertRaises(InvalidValue) as held:
            show_shape((), THING, 5)
        self.assertEqual(held.exception.given, 5)
        with self.assertRaises(InvalidValue) as held:
            show_value((), THING, ())
        self.assertEqual(held.exception.given, ())


class TestCalls(unittest.TestCase):
    def test_by_the_told_names(self):
        self.assertEqual(show_kind(kind=THING), "thing")
        self.assertEqual(show_book(book=ROWS), "Row = unit | (thing, Row);")
        self.assertEqual(show_value(value=5, kind=THING, book=()), "5")
        self.assertEqual(show_shape(shape=(), kind=THING, book=()), "*")

    def test_they_are_defined_in_their_file(self):
        for function in [show_kind, show_book, show_value, show_shape]:
            self.assertEqual(function.__module__, module.__name__)


if __name__ == "__main__":
    unittest.main()
