import itertools
import unittest

from holekinds import twoholes as module
from holekinds.books import is_value
from holekinds.counts import counts, shape
from holekinds.errors import InvalidHole, InvalidValue, NoSpot, NotApart
from holekinds.holes import book_by, fill, kind_by, mark, size, spots, things
from holekinds.twoholes import fill_two, mark_two, spots_of_two, turned_about
from tests import reference
from tests.samples import (
    BOXES, LEAF, LOST, ROSES, ROUND, ROWS, SAMPLES, THING, TREES, UNIT, Odd, either, holes_of, name, nested,
    node, odd_things, pair, row_of)

# Names that come to themselves by names alone, and by a pair, too; W has no values.
TURNS = (
    ("V", either(UNIT, pair(name("V"), pair(THING, name("W"))))), ("W", name("X")), ("X", name("W")))


def samples_with_two():
    """Each sample with each two holes of its book, with a few more samples for two holes."""
    more = [
        (ROUND, pair(name("A"), name("B"))), (ROUND, pair(THING, either(name("A"), name("C")))),
        (TURNS, name("V")), (TURNS, pair(name("W"), pair(name("X"), name("V")))), (BOXES, pair(name("Twin"), name("Box")))]
    for book, kind in SAMPLES + more:
        for hole, other in itertools.product(holes_of(book), repeat=2):
            yield book, kind, hole, other


def made_by(book, kind, *holes):
    """The book and the kind by one hole behind the other."""
    for hole in holes:
        book, kind = book_by(book, hole), kind_by(book, kind, hole)
    return book, kind


def twos(book, kind, hole, other, most_size=3):
    """Contexts with two holes, small ones."""
    return reference.values(*made_by(book, kind, hole, other), 1, most_size)


class TestMarking(unittest.TestCase):
    def test_by_hand(self):
        told = [
            ((), pair(THING, THING), THING, THING, ("pair", 5, 6), (1,), (2,), ("left", ("right", ("pair", (), ()))), 5, 6),
            ((), pair(THING, THING), THING, THING, ("pair", 5, 6), (2,), (1,), ("right", ("left", ("pair", (), ()))), 6, 5),
            ((), either(pair(THING, THING), UNIT), THING, THING, ("left", ("pair", 5, 6)), (1, 1), (1, 2),
             ("left", ("left", ("right", ("pair", (), ())))), 5, 6),
            (ROWS, name("Row"), THING, name("Row"), row_of(5), (1, 1), (1, 2),
             ("right", ("left", ("right", ("pair", (), LEAF)))), 5, LEAF),
            (ROWS, name("Row"), name("Row"), THING, row_of(5), (1, 2), (1, 1),
             ("right", ("right", ("right", ("left", ("pair", (), LEAF))))), LEAF, 5),
            (ROWS, name("Row"), THING, THING, row_of(5, 6), (1, 1), (1, 2, 1, 1),
             ("right", ("left", ("right", ("pair", (), ("right", ("left", ("pair", (), LEAF))))))), 5, 6)]
        for book, kind, hole, other, value, path, second, two, part, second_part in told:
            self.assertEqual(mark_two(book, kind, hole, other, value, path, second), (two, part, second_part))
            self.assertEqual(fill_two(book, kind, hole, other, two, part, second_part), value)
            self.assertEqual(spots_of_two(book, kind, hole, other, two), (path, second))

    def test_each_two_spots_that_are_apart(self):
        found = 0
        for book, kind, hole, other in samples_with_two():
            made = made_by(book, kind, hole, other)
            for value in reference.values(book, kind, 3, 4):
                told = {}
                for path, second in itertools.product(
                        spots(book, kind, hole, value), spots(book, kind, other, value)):
                    if not reference.are_apart(path, second):
                        continue
                    found += 1
                    three = mark_two(book, kind, hole, other, value, path, second)
                    self.assertEqual(three, reference.mark_two(book, kind, hole, other, value, path, second))
                    two, part, second_part = three
                    self.assertTrue(is_value(*made, two))
                    self.assertEqual(part, mark(book, kind, hole, value, path)[1])
                    self.assertEqual(second_part, mark(book, kind, other, value, second)[1])
                    self.assertEqual(fill_two(book, kind, hole, other, two, part, second_part), value)
                    self.assertEqual(spots_of_two(book, kind, hole, other, two), (path, second))
                    told[path, second] = three
                # One to one: no two pairs of spots tell the same.
                self.assertEqual(len(set(told.values())), len(told))
        self.assertGreater(found, 300)

    def test_the_first_one_is_marked_and_then_the_second_one_in_the_context(self):
        for book, kind, hole, other in samples_with_two():
            by_hole, kind_made = made_by(book, kind, hole)
            for value in reference.values(book, kind, 2, 3)[-2:]:
                for path in spots(book, kind, hole, value):
                    context, part = mark(book, kind, hole, value, path)
                    told = [
                        mark(by_hole, kind_made, other, context, there) + (part,)
                        for there in spots(by_hole, kind_made, other, context)]
                    apart = [
                        mark_two(book, kind, hole, other, value, path, second)
                        for second in spots(book, kind, other, value) if reference.are_apart(path, second)]
                    self.assertEqual(
                        sorted(map(repr, told)), sorted(repr((two, last, first)) for two, first, last in apart))

    def test_each_context_with_two_holes_and_parts(self):
        found = 0
        for book, kind, hole, other in samples_with_two():
            parts, seconds = [reference.values(book, one, 1, 2)[-2:] for one in (hole, other)]
            for two in twos(book, kind, hole, other):
                path, second = spots_of_two(book, kind, hole, other, two)
                self.assertTrue(reference.are_apart(path, second))
                for part, second_part in itertools.product(parts, seconds):
                    found += 1
                    value = fill_two(book, kind, hole, other, two, part, second_part)
                    self.assertEqual(value, reference.fill_two(book, kind, hole, other, two, part, second_part))
                    self.assertEqual(value, fill(book, kind, hole, fill(
                        *made_by(book, kind, hole), other, two, second_part), part))
                    self.assertTrue(is_value(book, kind, value))
                    self.assertEqual(
                        mark_two(book, kind, hole, other, value, path, second), (two, part, second_part))
        self.assertGreater(found, 300)

    def test_parts_add_what_they_have(self):
        for book, kind, hole, other in samples_with_two():
            part, second_part = [(reference.values(book, one, 1, 2) or [None])[-1] for one in (hole, other)]
            if part is None or second_part is None:
                continue
            made = made_by(book, kind, hole, other)
            for two in twos(book, kind, hole, other, 2):
                value = fill_two(book, kind, hole, other, two, part, second_part)
                for call in [size, things]:
                    self.assertEqual(
                        call(book, kind, value),
                        call(*made, two) + call(book, hole, part) + call(book, other, second_part))

    def test_in_books_by_holes(self):
        book, kind = made_by(ROWS, name("Row"), THING)
        value = ("right", ("right", ("pair", 5, ("right", ("left", ("pair", (), row_of(6, 7)))))))
        for hole, other in itertools.product(holes_of(book), repeat=2):
            for path, second in itertools.product(
                    reference.spots(book, kind, hole, value), reference.spots(book, kind, other, value)):
                if reference.are_apart(path, second):
                    three = mark_two(book, kind, hole, other, value, path, second)
                    self.assertEqual(three, reference.mark_two(book, kind, hole, other, value, path, second))
                    self.assertEqual(fill_two(book, kind, hole, other, *three), value)
                    later = turned_about(book, kind, hole, other, three[0])
                    self.assertEqual(later, mark_two(book, kind, other, hole, value, second, path)[0])

    def test_great_values(self):
        row, value = name("Row"), row_of(*range(90))
        told = mark_two(ROWS, row, THING, row, value, (1, 2) * 60 + (1, 1), (1, 2) * 90)
        self.assertEqual(told[1:], (60, LEAF))
        self.assertEqual(spots_of_two(ROWS, row, THING, row, told[0]), ((1, 2) * 60 + (1, 1), (1, 2) * 90))
        self.assertEqual(fill_two(ROWS, row, THING, row, told[0], 7, row_of(8)), row_of(
            *range(60), 7, *range(61, 90), 8))
        later = turned_about(ROWS, row, THING, row, told[0])
        self.assertEqual(later, mark_two(ROWS, row, row, THING, value, (1, 2) * 90, (1, 2) * 60 + (1, 1))[0])


class TestNotApart(unittest.TestCase):
    def test_one_within_the_other(self):
        tree, value = name("Tree"), node(node(LEAF, 1, LEAF), 2, LEAF)
        told = [
            (tree, THING, (), (1, 2, 1)), (tree, tree, (), (1, 1)), (tree, tree, (1, 1), ()), (tree, tree, (), ()),
            (tree, tree, (1, 1), (1, 1)), (THING, THING, (1, 2, 1), (1, 2, 1)), (THING, tree, (1, 2, 1), ()),
            (tree, THING, (1, 1), (1, 1, 1, 2, 1)), (THING, tree, (1, 1, 1, 2, 1), (1, 1))]
        for hole, other, path, second in told:
            with self.assertRaises(NotApart) as held:
                mark_two(TREES, tree, hole, other, value, path, second)
            self.assertIs(held.exception.given, second)

    def test_unlike_holes_at_one_path(self):
        value = ("left", ("pair", ("right", ()), 5))
        for hole, other in itertools.permutations(["Twin", "Box", "Row"], 2):
            with self.assertRaises(NotApart) as held:
                mark_two(BOXES, name("Twin"), name(hole), name(other), value, (), ())
            self.assertEqual(held.exception.given, ())
        for hole, other in itertools.permutations(["Box", "Row"], 2):
            second = (1, 1)
            with self.assertRaises(NotApart) as held:
                mark_two(BOXES, name("Twin"), name(hole), name(other), value, (1, 1), second)
            self.assertIs(held.exception.given, second)

    def test_each_two_spots_that_are_not_apart(self):
        for book, kind, hole, other in samples_with_two():
            for value in reference.values(book, kind, 1, 3):
                for path, second in itertools.product(
                        spots(book, kind, hole, value), spots(book, kind, other, value)):
                    if not reference.are_apart(path, second):
                        with self.assertRaises(NotApart) as held:
                            mark_two(book, kind, hole, other, value, path, second)
                        self.assertIs(held.exception.given, second)

    def test_no_spots(self):
        row, value = name("Row"), row_of(5)
        wrong = [(2,), (1,), (1, 1, 1), [1, 1], (True, 1), None, "11", Odd(), (1, Odd()), (1, 1.0j), 5] + odd_things()
        for thing in wrong:
            if type(thing) is tuple and len(thing) == 0:
                continue
            for path, second in [(thing, (1, 2)), (thing, thing), (thing, None)]:
                with self.assertRaises(NoSpot) as held:
                    mark_two(ROWS, row, THING, row, value, path, second)
                self.assertIs(held.exception.given, thing)
            # The first path, too, is one that the second one could not be apart from.
            for path in [(), (1, 2)]:
                with self.assertRaises(NoSpot) as held:
                    mark_two(ROWS, row, row, THING, value, path, thing)
                self.assertIs(held.exception.given, thing)

    def test_spots_of_the_one_hole_are_none_of_the_other_one(self):
        row, value = name("Row"), row_of(5)
        for hole, other, path, second, given in [
                (THING, row, (1, 2), (1, 2), (1, 2)), (THING, row, (1, 2), (1, 1), (1, 2)),
                (row, THING, (1, 2), (1, 2), (1, 2)), (row, THING, (), (), ()), (THING, row, (1, 1), (1, 1), (1, 1))]:
            with self.assertRaises(NoSpot) as held:
                mark_two(ROWS, row, hole, other, value, path, second)
            self.assertEqual(held.exception.given, given)


class TestTurnedAbout(unittest.TestCase):
    def test_twice_spots_size_and_places(self):
        found = 0
        for book, kind, hole, other in samples_with_two():
            made, made_later = made_by(book, kind, hole, other), made_by(book, kind, other, hole)
            told = []
            for two in twos(book, kind, hole, other):
                found += 1
                later = turned_about(book, kind, hole, other, two)
                told.append(later)
                self.assertTrue(is_value(*made_later, later))
                self.assertEqual(turned_about(book, kind, other, hole, later), two)
                path, second = spots_of_two(book, kind, hole, other, two)
                self.assertEqual(spots_of_two(book, kind, other, hole, later), (second, path))
                self.assertEqual(size(*made_later, later), size(*made, two))
                self.assertEqual(things(*made_later, later), things(*made, two))
            self.assertEqual(len(set(told)), len(told))
            # So all shapes of so many places and sizes come, each just once.
            self.assertEqual(
                {shape(*made_later, one) for one in told},
                {shape(*made_later, one) for one in twos(book, kind, other, hole)})
        self.assertGreater(found, 300)

    def test_with_parts_whatever_they_are(self):
        for book, kind, hole, other in samples_with_two():
            one, two_part = object(), Odd()
            for two in twos(book, kind, hole, other):
                later = turned_about(book, kind, hole, other, two)
                told = reference.fill_two(book, kind, hole, other, two, one, two_part)
                again = reference.fill_two(book, kind, other, hole, later, two_part, one)
                self.assertTrue(are_same(told, again))

    def test_marking_in_the_other_order(self):
        for book, kind, hole, other in samples_with_two():
            for value in reference.values(book, kind, 2, 3)[-3:]:
                for path, second in itertools.product(
                        spots(book, kind, hole, value), spots(book, kind, other, value)):
                    if reference.are_apart(path, second):
                        two = mark_two(book, kind, hole, other, value, path, second)[0]
                        self.assertEqual(
                            turned_about(book, kind, hole, other, two),
                            mark_two(book, kind, other, hole, value, second, path)[0])

    def test_holes_without_values(self):
        kind = pair(name("A"), pair(THING, name("B")))
        deep = [nested(LEAF, lambda told: ("right", told), times) for times in range(4)]
        for one, other in itertools.product(range(4), repeat=2):
            for hole, second in itertools.product([name("A"), name("B")], repeat=2):
                two = ("left", ("right", ("pair", deep[one], ("right", ("pair", 5, deep[other])))))
                later = turned_about(ROUND, kind, hole, second, two)
                self.assertEqual(later, ("right", ("left", ("pair", deep[one], ("right", ("pair", 5, deep[other]))))))
                self.assertEqual(spots_of_two(ROUND, kind, hole, second, two), ((1,), (2, 2)))
                self.assertEqual(turned_about(ROUND, kind, second, hole, later), two)
                # There are no parts of these holes at all.
                self.assertRaises(InvalidValue, fill_two, ROUND, kind, hole, second, two, (), ())
        lost = pair(name("Lost"), either(UNIT, name("Lost")))
        two = ("left", ("right", ("pair", LEAF, ("right", LEAF))))
        later = turned_about(LOST, lost, name("Lost"), name("Lost"), two)
        self.assertEqual(later, ("right", ("left", ("pair", LEAF, ("right", LEAF)))))

    def test_names_unfolded_on_the_way_that_both_have(self):
        # V is gone into on the way to both; as a hole it costs a step, as another name it costs none.
        value = nested(("left", ()), lambda told: ("right", ("pair", told, ("pair", 5, ("left", ())))), 3)
        book = (("V", either(UNIT, pair(name("V"), pair(THING, name("V"))))),)
        for path, second in [((1, 1, 1, 1), (1, 1, 1, 2, 1)), ((1, 1, 1, 2, 1), (1, 1, 1, 2, 2))]:
            holes = [name("V") if name("V") in reference_kinds(book, value, one) else THING for one in (path, second)]
            two = mark_two(book, name("V"), *holes, value, path, second)[0]
            later = turned_about(book, name("V"), *holes, two)
            self.assertEqual(later, mark_two(book, name("V"), *holes[::-1], value, second, path)[0])
            self.assertNotEqual(later, two)

    def test_as_many_shapes_in_either_order(self):
        for book, kind, hole, other in samples_with_two():
            made, made_later = made_by(book, kind, hole, other), made_by(book, kind, other, hole)
            for there, at in itertools.product([0, 1, 2, 3], [0, 1, 2, 3, 6]):
                self.assertEqual(counts(*made, there, at), counts(*made_later, there, at))


def reference_kinds(book, value, path):
    """The holes of which the path is a spot."""
    return [hole for hole in holes_of(book) if path in reference.spots(book, name("V"), hole, value)]


def are_same(told, other):
    """Whether both are the same, odd parts being one and the same object."""
    if type(told) is tuple and type(other) is tuple:
        return len(told) == len(other) and all(are_same(*both) for both in zip(told, other))
    return told is other or (type(told) in (int, str) and told == other)


class TestWrong(unittest.TestCase):
    def test_no_context_with_both_holes(self):
        row = name("Row")
        good = ("right", ("left", ("right", ("pair", (), LEAF))))
        self.assertEqual(spots_of_two(ROWS, row, THING, row, good), ((1, 1), (1, 2)))
        wrong = odd_things() + [
            (), LEAF, row_of(5), ("right", ("left", ("pair", (), LEAF))), ("right", ("left", ("left", ("pair", (), LEAF)))),
            ("right", ("right", ("left", ("pair", (), LEAF)))), ["right", ("left", ("right", ("pair", (), LEAF)))],
            ("right", ("left", ("right", ("pair", 5, LEAF)))), ("right", ("left", ("right", ("pair", (), ("right", ())))))]
        for thing in wrong:
            for call, more in [(spots_of_two, ()), (turned_about, ()), (fill_two, (5, LEAF)), (fill_two, (None, None))]:
                with self.assertRaises(InvalidValue) as held:
                    call(ROWS, row, THING, row, thing, *more)
                self.assertIs(held.exception.given, thing)

    def test_the_order_of_the_holes_counts(self):
        row = name("Row")
        good = ("right", ("left", ("right", ("pair", (), LEAF))))
        for call, more in [(spots_of_two, ()), (turned_about, ()), (fill_two, (LEAF, 5))]:
            self.assertRaises(InvalidValue, call, ROWS, row, row, THING, good, *more)

    def test_the_other_hole(self):
        row = name("Row")
        for thing in odd_things() + [name("Row'"), name("Tree"), UNIT, ["thing"]]:
            for call, more in [
                    (mark_two, (row_of(5), (1, 1), (1, 2))), (fill_two, (None, 5, 5)), (spots_of_two, (None,)),
                    (turned_about, (None,))]:
                with self.assertRaises(InvalidHole) as held:
                    call(ROWS, row, THING, thing, *more)
                self.assertIs(held.exception.given, thing)

    def test_parts(self):
        row = name("Row")
        good = ("right", ("left", ("right", ("pair", (), LEAF))))
        for part, second_part, given in [(True, LEAF, True), (LEAF, 5, LEAF), (5, 5, 5), (5, (), ()), (None, None, None)]:
            with self.assertRaises(InvalidValue) as held:
                fill_two(ROWS, row, THING, row, good, part, second_part)
            self.assertIs(held.exception.given, given)


class TestCalls(unittest.TestCase):
    def test_by_the_told_names(self):
        row = name("Row")
        two = ("right", ("left", ("right", ("pair", (), LEAF))))
        self.assertEqual(mark_two(
            second=(1, 2), path=(1, 1), value=row_of(5), other=row, hole=THING, kind=row, book=ROWS), (two, 5, LEAF))
        self.assertEqual(fill_two(
            second_part=row_of(7), part=6, two=two, other=row, hole=THING, kind=row, book=ROWS), row_of(6, 7))
        self.assertEqual(spots_of_two(two=two, other=row, hole=THING, kind=row, book=ROWS), ((1, 1), (1, 2)))
        later = turned_about(two=two, other=row, hole=THING, kind=row, book=ROWS)
        self.assertEqual(later, ("right", ("right", ("right", ("left", ("pair", (), LEAF))))))

    def test_they_are_defined_in_their_file(self):
        for function in [mark_two, fill_two, spots_of_two, turned_about]:
            self.assertEqual(function.__module__, module.__name__)

    def test_two_names_in_turn(self):
        roses = ("right", ("pair", ("pair", 5, LEAF), ("right", ("pair", ("pair", 6, LEAF), LEAF))))
        told = mark_two(ROSES, name("Roses"), name("Stem"), name("Roses"), roses, (1, 1), (1, 2))
        self.assertEqual(told[1:], (("pair", 5, LEAF), roses[1][2]))
        self.assertEqual(spots_of_two(ROSES, name("Roses"), name("Stem"), name("Roses"), told[0]), ((1, 1), (1, 2)))


if __name__ == "__main__":
    unittest.main()
