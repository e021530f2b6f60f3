"""A book, a kind, a hole and a value led through all modules: all tell the same."""

import unittest

from holekinds.books import does_know, is_book, is_hole, is_shape, is_value, kind_named
from holekinds.certificates import (
    certify_counts, certify_finite, certify_folds, certify_loop, certify_mark, certify_number, certify_spot)
from holekinds.checker import accepts
from holekinds.counts import counts, is_fair, number_of, shape, shape_of, shapes
from holekinds.cursors import (
    behind_deeds, context_within, cursors, first_within, former_one, next_one, out_of)
from holekinds.desk import Desk
from holekinds.folds import fold, fold_around, fold_of_part, is_algebra, is_rule
from holekinds.holes import book_by, fill, kind_by, mark, size, spot_of, spots, things
from holekinds.kinds import depth_of_kind, is_kind, names_in, parts_of_kind
from holekinds.loops import end_of, loop, rounds_of, state
from holekinds.text import (
    read_book, read_kind, read_shape, read_value, show_book, show_kind, show_shape, show_value)
from holekinds.twoholes import fill_two, mark_two, spots_of_two, turned_about
from tests import reference
from tests.rules import Numbers, algebra_of, rule_of

BOOKS = [
    ("""Expr = thing | (Op, (Expr, Expr)) | Block;
        Op = unit | unit;
        Block = (Expr, Rest);  # one or more
        Rest = unit | Block;""", "Expr"),
    ("Tree = unit | (Tree, (thing, Tree));", "Tree"),
    ("Rose = (thing, Roses); Roses = unit | (Rose, Roses);", "(Roses, thing | Rose)"),
    ("Nat = unit | Nat; Pair = (Nat, thing);", "Pair | (Nat, Pair)"),
    ("Row = unit | (thing, Row); Row' = none | ((unit, Row) | (thing, Row'));", "Row'")]


class TestTogether(unittest.TestCase):
    def setUp(self):
        self.cases = []
        for book_text, kind_text in BOOKS:
            book, kind = read_book(book_text), read_kind(kind_text)
            for hole in [("thing",)] + [("name", one) for one, _ in book if "'" not in one]:
                for value in reference.values(book, kind, 2, 4)[-3:]:
                    self.cases.append((book, kind, hole, value))

    def test_texts_and_descriptions(self):
        for book, kind, hole, value in self.cases:
            self.assertTrue(is_book(book) and is_kind(kind) and is_hole(book, hole) and is_value(book, kind, value))
            self.assertTrue(does_know(book, kind) and depth_of_kind(kind) <= parts_of_kind(kind))
            self.assertEqual(read_book(show_book(book)), book)
            self.assertEqual(read_kind(show_kind(kind)), kind)
            self.assertEqual(read_value(book, kind, show_value(book, kind, value)), value)
            self.assertTrue(all(kind_named(book, one) is not None for one in names_in(kind)))
            by_hole, kind_made = book_by(book, hole), kind_by(book, kind, hole)
            self.assertEqual(read_book(show_book(by_hole)), by_hole)
            for context, part in cursors(book, kind, hole, value):
                text = show_value(by_hole, kind_made, context)
                self.assertEqual(read_value(by_hole, kind_made, text), context)
                self.assertEqual(read_value(book, hole, show_value(book, hole, part)), part)

    def test_shapes_and_numbers(self):
        for book, kind, hole, value in self.cases:
            told = shape(book, kind, value)
            there, at, number = number_of(book, kind, told)
            self.assertEqual((there, at), (things(book, kind, value), size(book, kind, value)))
            self.assertTrue(is_shape(book, kind, told) and number < counts(book, kind, there, at))
            self.assertEqual(shape_of(book, kind, there, at, number), told)
            self.assertEqual(shapes(book, kind, there, at)[number], told)
            self.assertEqual(read_shape(book, kind, show_shape(book, kind, told)), told)
            self.assertTrue(accepts(*certify_number(book, kind, told)))
            self.assertTrue(accepts(*certify_counts(book, kind, there, at)))

    def test_spots_marks_and_cursors(self):
        for book, kind, hole, value in self.cases:
            paths = spots(book, kind, hole, value)
            told = cursors(book, kind, hole, value)
            self.assertEqual([mark(book, kind, hole, value, path) for path in paths], list(told))
            for at, (path, cursor) in enumerate(zip(paths, told)):
                self.assertEqual(spot_of(book, kind, hole, cursor[0]), path)
                self.assertEqual(fill(book, kind, hole, *cursor), value)
                self.assertEqual(next_one(book, kind, hole, *cursor), (*told, None)[at + 1])
                self.assertEqual(former_one(book, kind, hole, *cursor), (None, *told)[at])
                inner = first_within(book, kind, hole, *cursor)
                if inner is not None:
                    self.assertEqual(out_of(book, kind, hole, *inner), cursor)
                    context, part = cursors(book, hole, hole, cursor[1])[1]
                    self.assertEqual((context_within(book, kind, hole, cursor[0], context), part), inner)
                self.assertTrue(accepts(*certify_spot(book, kind, hole, value, path)))
                self.assertTrue(accepts(*certify_mark(book, kind, hole, value, path)))
            self.assertTrue(accepts(("cursors", book, kind, hole, value, len(told)), ()))

    def test_deeds_and_the_desk(self):
        deeds = [("next",), ("next",), ("put",), ("former",), ("put",), ("in",), ("undo",), ("last",), ("out",), ("undo",)]
        for book, kind, hole, value in self.cases:
            told = cursors(book, kind, hole, value)
            desk = Desk()
            names = "1 name" if len(book) == 1 else f"{len(book)} names"
            self.assertEqual(desk.say("book " + show_book(book)), (names,))
            desk.say(f"edit {show_kind(kind)} by {show_kind(hole)} : {show_value(book, kind, value)}")
            if not told:
                self.assertIsNone(desk.edited())
                continue
            part = told[-1][1]
            row = tuple(("put", part) if deed == ("put",) else deed for deed in deeds)
            for many, deed in enumerate(row):
                line = deed[0] if len(deed) == 1 else "put " + show_value(book, hole, part)
                desk.say(line)
                cursor = behind_deeds(book, kind, hole, *told[0], row[:many + 1])
                self.assertEqual(desk.edited(), (kind, hole, *cursor))
                other = fill(book, kind, hole, *cursor)
                self.assertEqual(desk.say("value"), (show_value(book, kind, other),))
                self.assertTrue(accepts(("led", book, kind, hole, value, row[:many + 1], other), ()))

    def test_two_holes(self):
        for book, kind, hole, value in self.cases:
            for path in spots(book, kind, ("thing",), value):
                for second in spots(book, kind, hole, value):
                    if not reference.are_apart(path, second):
                        continue
                    two, *parts = mark_two(book, kind, ("thing",), hole, value, path, second)
                    later = turned_about(book, kind, ("thing",), hole, two)
                    self.assertEqual(fill_two(book, kind, hole, ("thing",), later, *parts[::-1]), value)
                    self.assertEqual(spots_of_two(book, kind, ("thing",), hole, two), (path, second))
                    self.assertTrue(accepts(("turned about", book, kind, ("thing",), hole, two, later), ()))
                    context, part = mark(book, kind, ("thing",), value, path)
                    self.assertEqual(part, parts[0])
                    by_thing = book_by(book, ("thing",)), kind_by(book, kind, ("thing",))
                    self.assertEqual(fill(*by_thing, hole, two, parts[1]), context)

    def test_folds_and_loops(self):
        for at, (book, kind, hole, value) in enumerate(self.cases):
            numbers = Numbers(at)
            algebra, rule = algebra_of(book, numbers), rule_of(kind, numbers)
            self.assertTrue(is_algebra(book, algebra) and is_rule(kind, rule))
            number, rounds = loop(book, algebra, kind, rule, value)
            self.assertEqual((fold(book, algebra, kind, rule, value), rounds_of(book, kind, value)), (number, rounds))
            one = state(book, algebra, kind, rule, value, rounds // 2)
            self.assertEqual(end_of(book, algebra, one), number)
            self.assertTrue(accepts(("folds to", book, algebra, kind, rule, value, number), ()))
            self.assertTrue(accepts(*certify_loop(book, kind, value)))
            for context, part in cursors(book, kind, hole, value):
                inner = fold_of_part(book, algebra, hole, part)
                self.assertEqual(fold_around(book, algebra, kind, rule, hole, context, inner), number)
                for other in reference.values(book, hole, 1, 3)[:3]:
                    made = certify_folds(book, algebra, kind, rule, hole, context, part, other)
                    told = fold(book, algebra, kind, rule, fill(book, kind, hole, context, other))
                    if made is None:
                        self.assertEqual(told, number)
                    else:
                        self.assertTrue(accepts(*made))
                        self.assertEqual(told != number, made[0][0] == "folds apart")

    def test_what_is_fair(self):
        for book, kind, _, _ in self.cases:
            desk = Desk()
            desk.say("book " + show_book(book))
            fair = is_fair(book, kind)
            self.assertEqual(desk.say("fair " + show_kind(kind)), ("fair" if fair else "not fair",))
            if all("'" not in one for one, _ in book):
                claim, paper = certify_finite(book, kind)
                self.assertEqual(claim[0], "finite" if fair else "endless")
                self.assertTrue(accepts(claim, paper))


if __name__ == "__main__":
    unittest.main()
