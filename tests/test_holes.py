import copy
import itertools
import unittest

from holekinds import holes
from holekinds.books import is_book, is_value
from holekinds.errors import InvalidValue, NoSpot
from holekinds.holes import book_by, fill, kind_by, mark, size, spot_of, spots, things
from tests import reference
from tests.samples import (
    BOXES, IDLES, LEAF, NONE, ROSES, ROUND, ROW, ROWS, ROWS_BY_ALL, ROWS_BY_ROW, ROWS_BY_THING,
    ROWS_BY_THING_BY_THING, ROW_BY_ROW, ROW_BY_ROW_BY_ROW, ROW_BY_ROW_BY_THING, ROW_BY_THING,
    ROW_BY_THING_BY_ROW, ROW_BY_THING_BY_THING, SAMPLES, THING, TREES, UNIT, Odd, deep_kind, either,
    holes_of, name, nested, node, odd_things, pair, row_of, samples_with_holes, wide_kind)


class TestKindsByHoles(unittest.TestCase):
    def test_by_the_clauses(self):
        told = [
            (THING, THING, UNIT), (UNIT, THING, NONE), (NONE, THING, NONE), (THING, name("Row"), NONE),
            (UNIT, name("Row"), NONE), (NONE, name("Row"), NONE), (name("Row"), THING, name("Row'")),
            (name("Row"), name("Row"), either(UNIT, name("Row'Row"))),
            (pair(THING, UNIT), THING, either(pair(UNIT, UNIT), pair(THING, NONE))),
            (either(THING, UNIT), THING, either(UNIT, NONE)), (ROW, THING, ROW_BY_THING),
            (ROW, name("Row"), ROW_BY_ROW)]
        for kind, hole, by_hole in told:
            self.assertEqual(kind_by(ROWS, kind, hole), by_hole)

    def test_by_two_holes(self):
        told = [
            (ROW_BY_THING, THING, ROW_BY_THING_BY_THING), (ROW_BY_THING, name("Row"), ROW_BY_THING_BY_ROW),
            (ROW_BY_ROW, THING, ROW_BY_ROW_BY_THING), (ROW_BY_ROW, name("Row"), ROW_BY_ROW_BY_ROW),
            (name("Row'"), THING, name("Row''")), (name("Row'"), name("Row"), name("Row''Row")),
            (name("Row'Row"), THING, name("Row'Row'")), (name("Row'Row"), name("Row"), name("Row'Row'Row"))]
        for kind, hole, by_hole in told:
            self.assertEqual(kind_by(ROWS_BY_ALL, kind, hole), by_hole)

    def test_another_name_than_the_hole_is_by_it(self):
        self.assertEqual(kind_by(ROSES, name("Stem"), name("Roses")), name("Stem'Roses"))
        self.assertEqual(kind_by(ROSES, name("Roses"), name("Stem")), name("Roses'Stem"))

    def test_books(self):
        self.assertEqual(book_by(ROWS, THING), ROWS_BY_THING)
        self.assertEqual(book_by(ROWS, name("Row")), ROWS_BY_ROW)
        self.assertEqual(book_by(ROWS_BY_THING, THING), ROWS_BY_THING_BY_THING)
        self.assertEqual(book_by((), THING), ())
        self.assertEqual(
            [one for one, kind in book_by(book_by(ROWS, THING), name("Row"))],
            ["Row", "Row'", "Row''Row", "Row'Row"])

    def test_names_ascend_as_python_orders_texts(self):
        book = (("A", UNIT), ("A0", THING), ("Aa", UNIT), ("B", name("A")))
        self.assertEqual(book_by(book, THING), (
            ("A", UNIT), ("A'", NONE), ("A0", THING), ("A0'", UNIT), ("Aa", UNIT), ("Aa'", NONE),
            ("B", name("A")), ("B'", name("A'"))))

    def test_up_to_three_holes_one_behind_the_other(self):
        for book, kind in SAMPLES:
            for row in itertools.product(holes_of(book), repeat=3):
                made, made_kind = book, kind
                for hole in row:
                    self.assertEqual(kind_by(made, made_kind, hole), reference.kind_by(made_kind, hole))
                    made_kind = kind_by(made, made_kind, hole)
                    self.assertEqual(book_by(made, hole), reference.book_by(made, hole))
                    made = book_by(made, hole)
                    self.assertTrue(is_book(made))

    def test_what_is_greater_than_kinds_and_books_may_be(self):
        deep = nested(THING, lambda kind: pair(kind, THING), 29)
        self.assertEqual(kind_by((), deep, THING), reference.kind_by(deep, THING))
        wide = wide_kind(1999, THING)
        self.assertEqual(kind_by((), wide, THING), reference.kind_by(wide, THING))
        long = (("N00", THING),) + tuple(
            ("N" + str(at).zfill(2), name("N" + str(at - 1).zfill(2))) for at in range(1, 80))
        self.assertEqual(book_by(long, THING), reference.book_by(long, THING))
        self.assertEqual(len(book_by(long, name("N05"))), 160)
        names = tuple(("A" + "'" * many, NONE) for many in range(60))
        self.assertEqual(book_by(names, THING), names + (("A" + "'" * 60, NONE),))
        self.assertEqual(kind_by(names, name("A" + "'" * 59), THING), name("A" + "'" * 60))
        self.assertEqual(kind_by((), deep_kind(30), THING), reference.kind_by(deep_kind(30), THING))


class TestSpots(unittest.TestCase):
    def test_of_the_thing(self):
        self.assertEqual(spots((), THING, THING, 5), ((),))
        self.assertEqual(spots((), UNIT, THING, ()), ())
        self.assertEqual(spots((), pair(THING, pair(THING, UNIT)), THING, ("pair", 5, ("pair", 6, ()))), (
            (1,), (2, 1)))
        self.assertEqual(spots((), either(THING, UNIT), THING, ("left", 5)), ((1,),))
        self.assertEqual(spots((), either(THING, UNIT), THING, ("right", ())), ())

    def test_of_a_name_within_itself(self):
        self.assertEqual(spots(ROWS, name("Row"), name("Row"), row_of(5)), ((), (1, 2)))
        self.assertEqual(spots(ROWS, ROW, name("Row"), row_of(5)), ((1, 2),))
        small = node(LEAF, 1, LEAF)
        two = node(small, 2, LEAF)
        self.assertEqual(spots(TREES, name("Tree"), name("Tree"), two), (
            (), (1, 1), (1, 1, 1, 1), (1, 1, 1, 2, 2), (1, 2, 2)))
        self.assertEqual(spots(TREES, name("Tree"), THING, two), ((1, 1, 1, 2, 1), (1, 2, 1)))

    def test_of_names_for_names(self):
        value = ("left", ("pair", ("right", ()), 5))
        for hole in ["Box", "Row", "Twin"]:
            within = ((1, 1),) if hole != "Twin" else ()
            self.assertEqual(spots(BOXES, name("Twin"), name(hole), value), ((),) + within)
        self.assertEqual(spots(BOXES, name("Row"), name("Box"), value), ((1, 1),))
        self.assertEqual(spots(IDLES, name("Idle"), name("Again"), ("right", ("left", 5))), ((1,),))

    def test_as_the_document_tells_them_in_order(self):
        for book, kind, hole, values in samples_with_holes():
            for value in values:
                told = spots(book, kind, hole, value)
                self.assertIs(type(told), tuple)
                self.assertEqual(list(told), reference.spots(book, kind, hole, value))
                self.assertEqual(list(told), sorted(set(told)))

    def test_in_contexts(self):
        for book, kind, hole, values in samples_with_holes(2, 3):
            by_hole, kind_made = book_by(book, hole), kind_by(book, kind, hole)
            for context in reference.values(by_hole, kind_made, 2, 3):
                for other in holes_of(by_hole):
                    self.assertEqual(
                        list(spots(by_hole, kind_made, other, context)),
                        reference.spots(by_hole, kind_made, other, context))

    def test_of_great_values(self):
        row = row_of(*range(90))
        told = spots(ROWS, name("Row"), name("Row"), row)
        self.assertEqual(told, tuple((1, 2) * many for many in range(91)))
        context, part = mark(ROWS, name("Row"), name("Row"), row, (1, 2) * 90)
        self.assertEqual(part, LEAF)
        self.assertEqual(fill(ROWS, name("Row"), name("Row"), context, row_of(7)), row_of(*range(90), 7))
        tall = nested(("left", 5), lambda told: ("right", told), 199)
        self.assertEqual(spots(IDLES, name("Idle"), THING, tall), ((1,) * 200,))
        self.assertEqual(mark(IDLES, name("Idle"), THING, tall, (1,) * 200)[1], 5)
        # One deed more than the last one that is a spot leads nowhere.
        self.assertRaises(NoSpot, mark, IDLES, name("Idle"), THING, tall, (1,) * 201)


class TestMarking(unittest.TestCase):
    def test_each_clause(self):
        box = ("left", ("pair", ("right", ()), 5))
        told = [
            ((), THING, THING, 5, (), (), 5),
            ((), pair(THING, UNIT), THING, ("pair", 5, ()), (1,), ("left", ("pair", (), ())), 5),
            ((), pair(UNIT, THING), THING, ("pair", (), 5), (2,), ("right", ("pair", (), ())), 5),
            ((), either(THING, UNIT), THING, ("left", 5), (1,), ("left", ()), 5),
            ((), either(UNIT, THING), THING, ("right", 5), (1,), ("right", ()), 5),
            (ROWS, name("Row"), name("Row"), row_of(5), (), ("left", ()), row_of(5)),
            (ROWS, name("Row"), name("Row"), row_of(5), (1, 2),
             ("right", ("right", ("right", ("pair", 5, ("left", ()))))), LEAF),
            (ROWS, name("Row"), THING, row_of(5), (1, 1), ("right", ("left", ("pair", (), LEAF))), 5),
            (BOXES, name("Twin"), name("Row"), box, (), ("left", ()), box),
            (BOXES, name("Twin"), name("Box"), box, (1, 1),
             ("right", ("left", ("left", ("pair", ("left", ()), 5)))), ("right", ()))]
        for book, kind, hole, value, path, context, part in told:
            self.assertEqual(mark(book, kind, hole, value, path), (context, part))
            self.assertEqual(fill(book, kind, hole, context, part), value)
            self.assertEqual(spot_of(book, kind, hole, context), path)

    def test_there_and_back(self):
        for book, kind, hole, values in samples_with_holes():
            by_hole, kind_made = book_by(book, hole), kind_by(book, kind, hole)
            for value in values:
                for path in spots(book, kind, hole, value):
                    context, part = mark(book, kind, hole, value, path)
                    self.assertEqual((context, part), reference.mark(book, kind, hole, value, path))
                    self.assertTrue(is_value(by_hole, kind_made, context))
                    self.assertTrue(is_value(book, hole, part))
                    self.assertEqual(fill(book, kind, hole, context, part), value)
                    self.assertEqual(spot_of(book, kind, hole, context), path)

    def test_a_value_has_just_one_spot_that_tells_a_context_and_a_part(self):
        for book, kind, hole, values in samples_with_holes(2, 2):
            by_hole, kind_made = book_by(book, hole), kind_by(book, kind, hole)
            parts = reference.values(book, hole, 1, 3)
            for context in reference.values(by_hole, kind_made, 1, 4):
                for part in parts:
                    value = fill(book, kind, hole, context, part)
                    self.assertTrue(is_value(book, kind, value))
                    told = [mark(book, kind, hole, value, path) for path in spots(book, kind, hole, value)]
                    self.assertEqual(told.count((context, part)), 1)
                    at = told.index((context, part))
                    self.assertEqual(
                        spot_of(book, kind, hole, context), spots(book, kind, hole, value)[at])

    def test_another_part_leaves_the_context(self):
        for book, kind, hole, values in samples_with_holes(2, 3):
            parts = reference.values(book, hole, 1, 2) + [100] * (hole == THING)
            for value in values:
                for path in spots(book, kind, hole, value):
                    context = mark(book, kind, hole, value, path)[0]
                    for part in parts:
                        other = fill(book, kind, hole, context, part)
                        self.assertEqual(other, reference.put(value, path, part))
                        self.assertEqual(mark(book, kind, hole, other, path), (context, part))

    def test_paths_that_are_no_spots(self):
        paths = [path for many in range(5) for path in itertools.product([0, 1, 2], repeat=many)]
        more = [(-1,), (3,), (1, -1), (1, 3), (1, 10 ** 399), (2,) * 40, (1,) * 300]
        for book, kind, hole, values in samples_with_holes(1, 2):
            for value in values:
                told = spots(book, kind, hole, value)
                for path in paths + more:
                    if path not in told:
                        with self.assertRaises(NoSpot) as held:
                            mark(book, kind, hole, value, path)
                        self.assertIs(held.exception.given, path)

    def test_whatever_a_path_is(self):
        row = row_of(5, 6)
        wrong = odd_things() + [
            [], [1, 1], (True, True), (1, True), (True, 1), (1, 2, 1, True), ("1", "1"), "11", (1, 1, None),
            (1, 1, Odd()), (Odd(), 1), ((1, 1),), (1, [1]), {1: 1}, (1, 1, ()), (None,), (False,), (1, 1.0j)]
        for thing in wrong:
            for hole in holes_of(ROWS):
                with self.assertRaises(NoSpot) as held:
                    mark(ROWS, name("Row"), hole, row, thing)
                self.assertIs(held.exception.given, thing)
        for thing in [[], None, "", 0, True, (True,), set()]:
            with self.assertRaises(NoSpot) as held:
                mark((), THING, THING, 5, thing)
            self.assertIs(held.exception.given, thing)

    def test_contexts_of_names_that_have_no_value(self):
        # A and B stand for one another: there are contexts, at the path (), but no parts for them.
        for kind, hole in itertools.product([name("A"), name("B")], repeat=2):
            for times in range(4):
                context = nested(("left", ()), lambda told: ("right", told), times)
                self.assertTrue(is_value(book_by(ROUND, hole), kind_by(ROUND, kind, hole), context))
                self.assertEqual(spot_of(ROUND, kind, hole, context), ())
                self.assertRaises(InvalidValue, fill, ROUND, kind, hole, context, ())
                self.assertRaises(InvalidValue, mark, ROUND, kind, hole, (), ())


class TestMeasures(unittest.TestCase):
    def test_some(self):
        told = [
            ((), THING, 5, 0, 1), ((), UNIT, (), 0, 0), ((), pair(THING, THING), ("pair", 1, 2), 0, 2),
            (ROWS, name("Row"), row_of(), 1, 0), (ROWS, name("Row"), row_of(5, 7), 3, 2),
            (ROWS, ROW, row_of(5, 7), 2, 2), (ROWS, pair(name("Row"), ROW), ("pair", row_of(5), row_of(6)), 3, 2),
            (BOXES, name("Twin"), ("right", ()), 3, 0), (IDLES, name("Again"), ("right", ("left", 5)), 4, 1),
            (ROWS, name("Row"), row_of(*range(90)), 91, 90)]
        for book, kind, value, names, many in told:
            self.assertEqual((size(book, kind, value), things(book, kind, value)), (names, many))

    def test_as_the_document_tells_them(self):
        for book, kind in SAMPLES:
            for there, at in itertools.product(range(3), range(5)):
                for shape in reference.shapes(book, kind, there, at):
                    value = reference.with_things(book, kind, shape)
                    self.assertEqual((things(book, kind, value), size(book, kind, value)), (there, at))

    def test_marking_keeps_or_parts_the_size(self):
        for book, kind, hole, values in samples_with_holes():
            by_hole, kind_made = book_by(book, hole), kind_by(book, kind, hole)
            for value in values:
                whole, many = size(book, kind, value), things(book, kind, value)
                for path in spots(book, kind, hole, value):
                    context, part = mark(book, kind, hole, value, path)
                    self.assertEqual(size(by_hole, kind_made, context) + size(book, hole, part), whole)
                    self.assertEqual(things(by_hole, kind_made, context) + things(book, hole, part), many)
                    if hole == THING:
                        self.assertEqual(size(by_hole, kind_made, context), whole)


class TestCalls(unittest.TestCase):
    def test_by_the_told_names(self):
        row, context = row_of(5), ("right", ("left", ("pair", (), LEAF)))
        self.assertEqual(kind_by(hole=THING, kind=ROW, book=ROWS), ROW_BY_THING)
        self.assertEqual(book_by(hole=THING, book=ROWS), ROWS_BY_THING)
        self.assertEqual(spots(value=row, hole=THING, kind=name("Row"), book=ROWS), ((1, 1),))
        self.assertEqual(mark(path=(1, 1), value=row, hole=THING, kind=name("Row"), book=ROWS), (context, 5))
        self.assertEqual(fill(part=5, context=context, hole=THING, kind=name("Row"), book=ROWS), row)
        self.assertEqual(spot_of(context=context, hole=THING, kind=name("Row"), book=ROWS), (1, 1))
        self.assertEqual(size(value=row, kind=name("Row"), book=ROWS), 2)
        self.assertEqual(things(value=row, kind=name("Row"), book=ROWS), 1)

    def test_they_are_defined_in_their_file(self):
        for function in [kind_by, book_by, spots, mark, fill, spot_of, size, things]:
            self.assertEqual(function.__module__, holes.__name__)

    def test_nothing_passed_is_changed(self):
        path = [1, 1]
        self.assertRaises(NoSpot, mark, ROWS, name("Row"), THING, row_of(5), path)
        self.assertEqual(path, [1, 1])
        kept = copy.deepcopy(ROWS_BY_ALL)
        book_by(ROWS_BY_ALL, THING)
        self.assertEqual(ROWS_BY_ALL, kept)

    def test_a_second_call_tells_the_same(self):
        for _ in range(2):
            self.assertEqual(book_by(ROWS, THING), ROWS_BY_THING)
            self.assertEqual(spots(ROWS, name("Row"), THING, row_of(5, 7)), ((1, 1), (1, 2, 1, 1)))


if __name__ == "__main__":
    unittest.main()
