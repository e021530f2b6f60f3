import copy
import unittest

from holekinds import books
from holekinds.books import does_know, is_book, is_hole, is_shape, is_value, kind_named
from holekinds.errors import HoleError, InvalidBook, InvalidKind, InvalidName
from holekinds.making import kind_made, name_made
from tests.samples import (
    NONE, ROW, ROW_BY_ROW, ROW_BY_ROW_BY_THING, ROW_BY_THING, ROW_BY_THING_BY_ROW,
    ROW_BY_THING_BY_THING, ROWS, ROWS_BY_ALL, ROWS_BY_BOTH, ROWS_BY_ROW, ROWS_BY_THING,
    ROWS_BY_THING_BY_THING, THING, UNIT, deep_kind, either, name, nested, odd_things, pair, wide_kind)

# Two names, each by the other one: what one is by the other is worked out by hand.
A_KIND = pair(THING, name("B"))
B_KIND = either(name("A"), UNIT)
A_BY_B = either(pair(NONE, name("B")), pair(THING, either(UNIT, name("B'B"))))
B_BY_B = either(name("A'B"), NONE)
A_AND_B = (("A", A_KIND), ("B", B_KIND))
A_AND_B_BY_B = (("A", A_KIND), ("A'B", A_BY_B), ("B", B_KIND), ("B'B", B_BY_B))

# No KIND here has a name that the BOOK may be without, so that only the rules tell.
FLAT = (("A", pair(THING, UNIT)), ("B", UNIT))
FLAT_BY_THING = either(pair(UNIT, UNIT), pair(THING, NONE))
FLAT_BY_B = either(pair(NONE, UNIT), pair(THING, NONE))

BOOKS = [
    (), (("A", UNIT),), (("A", name("A")),), A_AND_B, A_AND_B_BY_B, FLAT, ROWS, ROWS_BY_THING,
    ROWS_BY_ROW, ROWS_BY_THING_BY_THING, ROWS_BY_BOTH, ROWS_BY_ALL,
    (("A", UNIT), ("A'", NONE), ("A'B", NONE), ("B", THING)),
    (("A", THING), ("A'", UNIT), ("A''", NONE)),
    (("Row", NONE), ("Row'Row", NONE), ("Row1", NONE))]

NO_PAIRS = [
    None, True, 5, "Row", (), ("Row",), ("Row", UNIT, UNIT), ["Row", UNIT], ("row", UNIT),
    ("Row", None), ("Row", ["unit"]), ("Row", "unit"), (UNIT, "Row"), (None, UNIT), (True, UNIT),
    ("", UNIT), ("A'" * 30 + "A", UNIT), ("Abcdefghi", UNIT), ("Row", deep_kind(31)),
    ("Row", wide_kind(2001)), ("Row", pair(UNIT, True)), (["Row"], UNIT)]


def many_names(many):
    """So many names as written, ascending."""
    return ["N" + str(number).zfill(3) for number in range(many)]


def long_book(many):
    return tuple((one, name(one)) for one in many_names(many))


def book_made(book, hole):
    """The book by the hole, as [B1] tells it."""
    more = {name_made(one, hole): kind_made(kind, hole) for one, kind in book}
    return tuple(sorted({**dict(book), **more}.items()))


class TestBooks(unittest.TestCase):
    def refused(self, book, index):
        """Each function says the same of what is no BOOK."""
        self.assertIs(is_book(book), False)
        for call in [
                lambda: kind_named(book, "Row"), lambda: does_know(book, UNIT),
                lambda: is_hole(book, THING), lambda: is_value(book, UNIT, ()),
                lambda: is_shape(book, UNIT, ())]:
            with self.assertRaises(InvalidBook) as held:
                call()
            self.assertEqual(held.exception.index, index)
            self.assertIs(type(held.exception.index), type(index))

    def test_books(self):
        for book in BOOKS:
            self.assertIs(is_book(book), True, book)

    def test_no_tuple(self):
        for thing in [list(ROWS), dict(ROWS), set(ROWS), "Row", None, True, False, 0, 5, b""]:
            self.refused(thing, None)

    def test_whatever_it_is(self):
        for thing in odd_things():
            self.assertIs(is_book(thing), False)
            self.assertIs(is_book((thing,)), False)
            self.assertIs(is_book((("Row", thing),)), False)
            self.assertIs(is_book(((thing, UNIT),)), False)
            self.refused(ROWS + (thing,), 1)
            self.refused(ROWS + (("Tree", thing),), 1)
            self.refused(ROWS + ((thing, UNIT),), 1)

    def test_eighty_pairs_and_eighty_one(self):
        self.assertTrue(is_book(long_book(79)))
        self.assertTrue(is_book(long_book(80)))
        self.refused(long_book(81), None)
        self.refused((None,) * 81, None)
        self.refused((None,) * 80, 0)

    def test_no_pair_of_a_name_and_a_kind(self):
        for row in NO_PAIRS:
            self.refused((row,), 0)
            self.refused((("A", UNIT), row), 1)
            self.refused((("A", UNIT), row, row), 1)
            self.refused((("A", UNIT), row, ("Z", UNIT)), 1)

    def test_the_greatest_kinds_in_a_book(self):
        self.assertTrue(is_book((("A", deep_kind(30)), ("B", wide_kind(1999)))))
        self.refused((("A", deep_kind(30)), ("B", deep_kind(31))), 1)

    def test_pairs_out_of_order(self):
        self.refused((("B", UNIT), ("A", UNIT)), 1)
        self.refused((("A", UNIT), ("C", UNIT), ("B", UNIT), ("D", UNIT), ("C", UNIT)), 2)
        self.refused((("Row1", UNIT), ("Row'", NONE), ("Row", UNIT)), 1)
        self.refused((("Row'", ROW_BY_THING), ("Row", ROW)), 1)
        self.refused(tuple(reversed(long_book(80))), 1)

    def test_names_ascend_as_python_orders_texts(self):
        book = (
            ("A", UNIT), ("A'", NONE), ("A''", NONE), ("A'A", NONE), ("A0", UNIT), ("Aa", UNIT),
            ("Aa'", NONE), ("Aaa", UNIT), ("B", UNIT))
        self.assertTrue(is_book(book))
        for at in range(len(book) - 1):
            self.refused(book[:at] + (book[at + 1], book[at]) + book[at + 2:], at + 1)

    def test_a_name_told_twice(self):
        self.refused((("A", UNIT), ("A", UNIT)), 1)
        self.refused((("A", UNIT), ("B", UNIT), ("B", THING)), 2)
        self.refused((("Row", ROW), ("Row", ROW)), 1)

    def test_a_name_that_the_book_has_not(self):
        self.refused((("A", name("B")),), 0)
        self.refused((("A", UNIT), ("B", pair(name("A"), either(UNIT, name("C"))))), 1)
        self.refused((("Row", either(ROW, name("Row'"))),), 0)
        self.refused((("A", name("B")), ("B", name("C")), ("D", UNIT)), 1)

    def test_the_three_steps_one_behind_the_other(self):
        unlike = ("A'", THING)
        unknown = ("B", name("C"))
        self.refused((("A", UNIT), unlike), 1)
        self.refused((("A", UNIT), unlike, unknown), 2)
        self.refused((("A", UNIT), unlike, unknown, ("D", None)), 3)
        self.refused((("A", UNIT), unlike, unknown, ("D", UNIT), ("D", UNIT)), 4)
        self.refused((("A", name("C")), unlike), 0)
        self.refused((("A", UNIT), unlike, ("A''", THING)), 1)

    def test_by_the_thing_without_the_name(self):
        self.refused((("Row'", UNIT),), 0)
        self.refused((("Row''", NONE),), 0)
        self.refused((("Row", THING), ("Row''", NONE)), 1)
        self.refused((("A", UNIT), ("B'", NONE), ("C", UNIT)), 1)

    def test_by_a_name_without_the_name_or_the_hole(self):
        self.assertTrue(is_book(FLAT[:1] + (("A'B", FLAT_BY_B),) + FLAT[1:]))
        self.refused(FLAT[:1] + (("A'B", FLAT_BY_B),), 1)
        self.refused((("A'B", FLAT_BY_B),) + FLAT[1:], 0)
        self.refused((("A", UNIT), ("A'", NONE), ("A''B", NONE)), 2)
        self.refused((("A", UNIT), ("A'B", NONE), ("A'B'", NONE)), 1)
        self.refused((("A", UNIT), ("A'B'", NONE), ("B", UNIT)), 1)

    def test_by_a_hole_with_the_kind_that_the_rules_make(self):
        for by_hole, kind in [("A'", FLAT_BY_THING), ("A'B", FLAT_BY_B)]:
            for other in [UNIT, NONE, THING, name("A"), FLAT[0][1], FLAT_BY_THING, FLAT_BY_B,
                          either(kind[2], kind[1]), pair(kind[1], kind[2]), either(kind, NONE)]:
                book = FLAT[:1] + ((by_hole, other),) + FLAT[1:]
                if other == kind:
                    self.assertTrue(is_book(book))
                else:
                    self.refused(book, 1)

    def test_each_clause_of_the_rules(self):
        told = [
            ("A'", THING, UNIT), ("A'", NONE, NONE), ("A'", UNIT, NONE),
            ("A'", name("A"), name("A'")), ("A'A", THING, NONE), ("A'A", UNIT, NONE),
            ("A'A", NONE, NONE), ("A'A", name("A"), either(UNIT, name("A'A"))),
            ("A'", pair(THING, UNIT), either(pair(UNIT, UNIT), pair(THING, NONE))),
            ("A'", either(THING, UNIT), either(UNIT, NONE)),
            ("A'A", pair(name("A"), THING),
             either(pair(either(UNIT, name("A'A")), THING), pair(name("A"), NONE))),
            ("A'A", either(THING, name("A")), either(NONE, either(UNIT, name("A'A"))))]
        kinds = [kind for by_hole, a_kind, kind in told]
        for by_hole, a_kind, kind in told:
            self.assertTrue(is_book((("A", a_kind), (by_hole, kind))))
            for other in kinds + [UNIT, THING]:
                if other != kind and set(books.names_among(books.parts_found(other))) <= {"A", by_hole}:
                    self.refused((("A", a_kind), (by_hole, other)), 1)

    def test_a_name_that_is_not_the_hole_is_by_it(self):
        self.assertTrue(is_book((("A", name("B")), ("A'", name("B'")), ("B", UNIT), ("B'", NONE))))
        self.assertTrue(is_book(A_AND_B_BY_B))
        self.refused((("A", name("B")), ("A'", NONE), ("B", UNIT), ("B'", NONE)), 1)
        self.refused(A_AND_B_BY_B[:3] + (("B'B", either(UNIT, NONE)),), 3)

    def test_by_the_thing(self):
        self.refused(((("Row", ROW), ("Row'", ROW_BY_ROW))), 1)
        self.refused((("Row", ROW), ("Row'", ROW)), 1)
        self.refused((("Row'", ROW_BY_THING),), 0)
        self.refused((("Row", pair(UNIT, name("Row"))), ("Row'", ROW_BY_THING)), 1)

    def test_by_a_name(self):
        self.refused((("Row", ROW), ("Row'Row", ROW_BY_THING)), 1)
        self.refused((("Row", ROW), ("Row'Row", ROW)), 1)
        self.refused((("Row'Row", ROW_BY_ROW),), 0)

    def test_by_two_holes_one_behind_the_other(self):
        wrong = [
            ("Row''", ROW_BY_THING_BY_ROW), ("Row''Row", ROW_BY_THING_BY_THING),
            ("Row'Row'", ROW_BY_THING_BY_ROW), ("Row''Row", ROW_BY_ROW_BY_THING),
            ("Row'Row'Row", ROW_BY_ROW_BY_THING)]
        self.assertEqual(book_made(book_made(ROWS, THING), name("Row")), tuple(sorted(
            row for row in ROWS_BY_ALL if row[0] in ("Row", "Row'", "Row'Row", "Row''Row"))))
        for by_hole, kind in wrong:
            book = tuple((one, kind if one == by_hole else right) for one, right in ROWS_BY_ALL)
            self.refused(book, [one for one, right in ROWS_BY_ALL].index(by_hole))
        for without in ["Row''", "Row''Row", "Row'Row'", "Row'Row'Row"]:
            self.assertTrue(is_book(tuple(row for row in ROWS_BY_ALL if row[0] != without)))
        for without in ["Row", "Row'", "Row'Row"]:
            self.assertFalse(is_book(tuple(row for row in ROWS_BY_ALL if row[0] != without)))

    def test_books_made_by_holes_are_books(self):
        for book in BOOKS:
            for hole in [THING] + [name(one) for one, kind in book if "'" not in one]:
                by_hole = book_made(book, hole)
                self.assertTrue(is_book(by_hole), by_hole)
                for second in [THING] + [name(one) for one, kind in book if "'" not in one]:
                    self.assertTrue(is_book(book_made(by_hole, second)))

    def test_a_kind_by_a_hole_that_is_greater_than_kinds_may_be(self):
        deep = nested(UNIT, lambda kind: pair(kind, UNIT), 20)
        self.assertFalse(books.is_kind(kind_made(deep, THING)))
        self.refused((("A", deep), ("A'", NONE)), 1)
        long = "A" + "'" * 59
        kinds = [("A" + "'" * many, NONE) for many in range(60)]
        self.assertEqual(len(kinds[-1][0]), len(long))
        self.assertTrue(is_book(tuple(kinds)))
        self.refused(tuple(kinds) + ((long + "'", NONE),), 60)

    def test_by_its_told_name(self):
        self.assertIs(is_book(value=()), True)


class TestKindNamed(unittest.TestCase):
    def test_the_kind(self):
        self.assertEqual(kind_named(ROWS_BY_ALL, "Row"), ROW)
        self.assertEqual(kind_named(ROWS_BY_ALL, "Row'"), ROW_BY_THING)
        self.assertEqual(kind_named(ROWS_BY_ALL, "Row'Row"), ROW_BY_ROW)
        self.assertEqual(kind_named(ROWS_BY_ALL, "Row'Row'"), ROW_BY_ROW_BY_THING)
        self.assertEqual(kind_named(long_book(80), "N079"), name("N079"))

    def test_none_for_a_name_that_the_book_has_not(self):
        for one in ["Row'", "Row'Row", "Tree", "R", "Row1", "A'" * 30]:
            self.assertIsNone(kind_named(ROWS, one))
            self.assertIsNone(kind_named((), one))

    def test_no_name_is_refused(self):
        for thing in odd_things() + ["", "row", "Row ", "A'" * 30 + "A", ["Row"], ("name", "Row"), b"Row"]:
            with self.assertRaises(InvalidName) as held:
                kind_named(ROWS, thing)
            self.assertIs(held.exception.given, thing)

    def test_the_first_wrong_argument_is_told(self):
        with self.assertRaises(InvalidBook) as held:
            kind_named((("A", UNIT), None), None)
        self.assertEqual(held.exception.index, 1)

    def test_by_their_told_names(self):
        self.assertEqual(kind_named(name="Row", book=ROWS), ROW)


class TestHoles(unittest.TestCase):
    def test_the_thing_and_names_as_written(self):
        for book in BOOKS:
            self.assertIs(is_hole(book, THING), True)
            for one, kind in book:
                self.assertIs(is_hole(book, name(one)), "'" not in one)

    def test_what_is_no_hole(self):
        for thing in [name("Tree"), UNIT, NONE, ROW, pair(THING, THING), "thing", "Row", ["thing"],
                      ["name", "Row"], (), ("thing", ()), ("name",), ("name", "Row", "Row"),
                      ("name", "row"), ("name", None), ("name", ["Row"]), True, None, 3,
                      ("things",), ("names", "Row")]:
            self.assertIs(is_hole(ROWS, thing), False, thing)
        self.assertIs(is_hole((), name("Row")), False)

    def test_whatever_it_is(self):
        for thing in odd_things():
            self.assertIs(is_hole(ROWS, thing), False)

    def test_by_their_told_names(self):
        self.assertIs(is_hole(value=THING, book=ROWS), True)


class TestDoesKnow(unittest.TestCase):
    def test_kinds_of_known_names(self):
        for kind in [THING, UNIT, NONE, name("Row"), ROW, pair(ROW, ROW), deep_kind(30), wide_kind(1999),
                     deep_kind(30, name("Row")), either(UNIT, name("Row"))]:
            self.assertIs(does_know(ROWS, kind), True)
        for kind in [ROW_BY_THING, name("Row'")]:
            self.assertIs(does_know(ROWS, kind), False)
            self.assertIs(does_know(ROWS_BY_THING, kind), True)

    def test_names_that_the_book_has_not(self):
        for kind in [name("Tree"), pair(THING, name("Tree")), deep_kind(30, name("Tree")),
                     pair(name("Row"), either(name("Row"), name("Row1")))]:
            self.assertIs(does_know(ROWS, kind), False)
        self.assertIs(does_know((), name("Row")), False)

    def test_no_kinds(self):
        for thing in odd_things() + [deep_kind(31), wide_kind(2001), ["thing"], pair(THING, ["thing"])]:
            self.assertIs(does_know(ROWS, thing), False)

    def test_by_their_told_names(self):
        self.assertIs(does_know(value=ROW, book=ROWS), True)


class TestArguments(unittest.TestCase):
    def test_the_first_wrong_one_is_told(self):
        for function in [is_value, is_shape]:
            with self.assertRaises(InvalidBook) as held:
                function([], None, None)
            self.assertIsNone(held.exception.index)
            with self.assertRaises(InvalidBook) as held:
                function((("A", name("B")),), None, None)
            self.assertEqual(held.exception.index, 0)
            with self.assertRaises(InvalidKind) as held:
                function(ROWS, name("Tree"), object())
            self.assertEqual(held.exception.given, name("Tree"))

    def test_kinds_that_are_none_or_have_unknown_names_are_refused(self):
        told = odd_things() + [
            name("Tree"), pair(name("Row"), name("Row'")), deep_kind(31), wide_kind(2001), ["thing"]]
        for function in [is_value, is_shape]:
            for thing in told:
                with self.assertRaises(InvalidKind) as held:
                    function(ROWS, thing, ())
                self.assertIs(held.exception.given, thing)

    def test_errors_stand_under_hole_error(self):
        with self.assertRaises(HoleError):
            is_value(None, UNIT, ())
        with self.assertRaises(ValueError):
            is_value((), None, ())

    def test_nothing_passed_is_changed(self):
        row = ["Row", ["either", ["unit"], {"Row": [1]}]]
        for thing in [row, {"Row": row}, [row], (row,), (("Row", row),), ("pair", row, row), ("name", row)]:
            kept = copy.deepcopy(thing)
            self.assertFalse(is_book(thing))
            self.assertFalse(is_hole(ROWS, thing))
            self.assertFalse(does_know(ROWS, thing))
            self.assertFalse(is_value(ROWS, ROW, thing))
            self.assertFalse(is_shape(ROWS, ROW, thing))
            for call in [lambda: is_value(thing, ROW, ()), lambda: is_value(ROWS, thing, ()),
                         lambda: kind_named(ROWS, thing)]:
                self.assertRaises(HoleError, call)
            self.assertEqual(thing, kept)

    def test_a_second_call_tells_the_same(self):
        for _ in range(2):
            self.assertTrue(is_value(ROWS, ROW, ("left", ())))
            self.assertTrue(is_book(ROWS_BY_ALL))
            self.assertEqual(kind_named(ROWS, "Row"), ROW)

    def test_they_are_defined_in_their_file(self):
        for function in [is_book, kind_named, does_know, is_hole, is_value, is_shape]:
            self.assertEqual(function.__module__, books.__name__)


if __name__ == "__main__":
    unittest.main()
