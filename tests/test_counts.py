import itertools
import math
import unittest

from holekinds import counts as module
from holekinds.books import is_shape
from holekinds.counts import counts, is_fair, number_of, shape, shape_of, shapes
from holekinds.errors import InvalidNumber, InvalidValue, NoShape, TooMany
from holekinds.holes import book_by, kind_by, spots
from tests import reference
from tests.samples import (
    BOXES, FLATS, IDLES, LOST, NONE, ROSES, ROUND, ROW, ROWS, ROWS_BY_ALL, SAMPLES, THING, TREES, UNIT,
    either, holes_of, name, nested, odd_things, pair, wide_kind)

LEAF = ("left", ())
# So many trees have n things (Catalan's numbers).
TREES_OF = [math.comb(2 * many, many) // (many + 1) for many in range(21)]


def long_book(many, kind):
    """A book in which each name stands for a unit, or a thing and the next one; the last for the kind."""
    names = ["N" + str(at).zfill(2) for at in range(many)]
    kinds = [either(UNIT, pair(THING, name(one))) for one in names[1:]] + [kind]
    return tuple(zip(names, kinds))


class TestCounts(unittest.TestCase):
    def test_leaves(self):
        for there, at in itertools.product([0, 1, 2, 20], repeat=2):
            self.assertEqual(counts((), THING, there, at), 1 if (there, at) == (1, 0) else 0)
            self.assertEqual(counts((), UNIT, there, at), 1 if (there, at) == (0, 0) else 0)
            self.assertEqual(counts((), NONE, there, at), 0)

    def test_pairs_eithers_and_names(self):
        told = [
            ((), pair(THING, THING), 2, 0, 1), ((), pair(THING, THING), 1, 0, 0), ((), pair(THING, NONE), 1, 0, 0),
            ((), either(THING, THING), 1, 0, 2), ((), either(UNIT, THING), 0, 0, 1),
            (ROWS, name("Row"), 0, 0, 0), (ROWS, name("Row"), 0, 1, 1), (ROWS, ROW, 0, 0, 1),
            (ROWS, name("Row"), 3, 4, 1), (ROWS, name("Row"), 3, 3, 0), (ROWS, name("Row"), 20, 20, 0),
            (ROWS, name("Row"), 19, 20, 1), (ROWS, ROW, 20, 20, 1), (ROWS_BY_ALL, name("Row'"), 19, 20, 0),
            (ROWS_BY_ALL, name("Row'"), 18, 20, 19), (FLATS, name("Pair"), 1, 2, 2), (FLATS, name("Bit"), 0, 1, 2)]
        for book, kind, there, at, many in told:
            self.assertEqual(counts(book, kind, there, at), many)

    def test_trees(self):
        for many in range(10):
            self.assertEqual(counts(TREES, name("Tree"), many, 2 * many + 1), TREES_OF[many])
            self.assertEqual(counts(TREES, name("Tree"), many, 2 * many), 0)

    def test_the_shapes_looked_through(self):
        for book, kind in SAMPLES:
            for there, at in itertools.product(range(4), range(6)):
                self.assertEqual(
                    counts(book, kind, there, at), len(reference.shapes(book, kind, there, at)))

    def test_up_to_twenty_things_and_size_twenty(self):
        for book, kind in SAMPLES:
            for there, at in itertools.product([0, 1, 7, 19, 20], [0, 1, 8, 19, 20]):
                self.assertEqual(counts(book, kind, there, at), reference.counts(book, kind, there, at))

    def test_great_kinds(self):
        bits = nested(THING, lambda kind: pair(kind, either(UNIT, THING)), 28)
        self.assertEqual([counts((), bits, there, 0) for there in range(21)], [
            math.comb(28, there - 1) if there else 0 for there in range(21)])
        self.assertEqual(counts((), wide_kind(1999, THING), 20, 0), 0)
        self.assertEqual(counts((), wide_kind(1999, UNIT), 0, 0), 1)
        self.assertEqual(counts(ROWS, wide_kind(1999, name("Row")), 0, 20), 0)
        choice = nested(THING, lambda kind: either(kind, kind), 9)
        self.assertEqual(counts((), choice, 1, 0), 512)
        many = nested(either(THING, THING), lambda kind: pair(kind, kind), 8)
        self.assertEqual(counts((), many, 20, 0), 0)
        units = nested(either(UNIT, UNIT), lambda kind: pair(kind, kind), 8)
        self.assertEqual(counts((), units, 0, 0), 2 ** 256)

    def test_books_of_eighty_names(self):
        book = long_book(80, UNIT)
        for there, at in itertools.product(range(0, 21, 4), range(21)):
            self.assertEqual(counts(book, name("N00"), there, at), 1 if at == there + 1 else 0)
            self.assertEqual(counts(book, name("N75"), there, at), 1 if at == there + 1 and at <= 5 else 0)
        book = long_book(80, name("N00"))
        self.assertEqual(counts(book, name("N79"), 2, 4), 1)
        self.assertEqual(counts(book, name("N79"), 2, 3), 0)
        every = nested(name("N00"), lambda kind: either(kind, kind), 5)
        self.assertEqual(counts(book, pair(every, every), 18, 20), 32 * 32 * 19)

    def test_names_that_stand_for_one_another_alone(self):
        for there, at in itertools.product([0, 1, 20], [0, 1, 2, 20]):
            self.assertEqual(counts(ROUND, name("A"), there, at), 0)
            self.assertEqual(counts(ROUND, name("C"), there, at), 1 if (there, at) == (0, 3) else 0)
            self.assertEqual(counts(LOST, name("Lost"), there, at), 0)

    def test_many_times_the_counts_are_those_by_the_thing(self):
        for book, kind in SAMPLES:
            by_thing, kind_made = book_by(book, THING), kind_by(book, kind, THING)
            for there, at in itertools.product([1, 2, 3, 20], [0, 1, 2, 5, 20]):
                self.assertEqual(
                    there * counts(book, kind, there, at), counts(by_thing, kind_made, there - 1, at))

    def test_the_spots_of_a_name_are_as_many_as_contexts_and_parts(self):
        for book, kind in SAMPLES:
            for hole in holes_of(book)[1:]:
                by_hole, kind_made = book_by(book, hole), kind_by(book, kind, hole)
                for there, at in itertools.product(range(3), range(5)):
                    found = [
                        len(spots(book, kind, hole, reference.with_things(book, kind, one)))
                        for one in shapes(book, kind, there, at)]
                    told = [
                        counts(by_hole, kind_made, first, one)
                        * counts(book, hole, there - first, at - one)
                        for first in range(there + 1) for one in range(at + 1)]
                    self.assertEqual(sum(found), sum(told))


class TestFair(unittest.TestCase):
    def fair(self, kind, *pairs):
        self.assertIs(is_fair(tuple(sorted(pairs)), kind), True)

    def unfair(self, kind, *pairs):
        self.assertIs(is_fair(tuple(sorted(pairs)), kind), False)

    def test_kinds_without_names(self):
        for kind in [THING, UNIT, NONE, pair(THING, NONE), either(UNIT, THING)]:
            self.fair(kind)
            self.fair(kind, ("Idle", either(UNIT, name("Idle"))))

    def test_a_name_that_leads_to_itself(self):
        loop = name("Loop")
        self.unfair(loop, ("Loop", either(UNIT, loop)))
        self.unfair(loop, ("Loop", either(loop, THING)))
        self.unfair(loop, ("Loop", either(THING, pair(UNIT, loop))))
        self.unfair(loop, ("Loop", either(THING, pair(loop, UNIT))))
        self.unfair(loop, ("Loop", either(UNIT, pair(loop, loop))))
        self.fair(loop, ("Loop", pair(UNIT, loop)))
        self.fair(loop, ("Loop", loop))
        self.fair(loop, ("Loop", either(UNIT, pair(THING, loop))))
        self.fair(loop, ("Loop", either(UNIT, pair(loop, THING))))
        self.fair(loop, ("Loop", either(UNIT, pair(loop, NONE))))
        self.fair(loop, ("Loop", either(THING, pair(loop, loop))))
        self.unfair(loop, ("Loop", either(THING, pair(either(THING, UNIT), loop))))

    def test_by_more_steps(self):
        far, one, other = name("Far"), name("One"), name("Two")
        self.unfair(far, ("Far", one), ("One", other), ("Two", either(far, UNIT)))
        self.fair(far, ("Far", one), ("One", other), ("Two", either(pair(THING, far), UNIT)))
        self.fair(far, ("Far", one), ("One", other), ("Two", far))
        self.unfair(far, ("Far", pair(THING, one)), ("One", other), ("Two", either(one, UNIT)))
        # One is still, so Two leads idly to itself beside it.
        self.unfair(other, ("One", either(THING, UNIT)), ("Two", either(UNIT, pair(one, other))))
        self.fair(other, ("One", pair(THING, UNIT)), ("Two", either(UNIT, pair(one, other))))

    def test_idle_names_that_are_not_met(self):
        idle = ("Idle", either(UNIT, name("Idle")))
        lost = ("Lost", pair(THING, name("Lost")))
        self.unfair(name("Idle"), idle)
        self.unfair(pair(THING, name("Idle")), idle)
        self.unfair(pair(name("Idle"), THING), idle)
        self.fair(pair(NONE, name("Idle")), idle)
        self.fair(pair(name("Idle"), NONE), idle)
        self.fair(pair(name("Lost"), name("Idle")), idle, lost)
        self.unfair(either(name("Lost"), name("Idle")), idle, lost)
        self.fair(name("Far"), idle, lost, ("Far", either(UNIT, pair(name("Lost"), pair(THING, name("Idle"))))))
        self.unfair(name("Far"), idle, ("Far", either(UNIT, pair(THING, pair(THING, name("Idle"))))))
        self.fair(either(UNIT, pair(NONE, either(UNIT, pair(UNIT, name("Idle"))))), idle)

    def test_idle_names_that_are_not_fruitful(self):
        self.fair(name("A"), ("A", name("B")), ("B", either(name("A"), name("A"))))
        self.fair(either(UNIT, name("A")), ("A", pair(UNIT, either(name("A"), NONE))))
        self.fair(name("C"), ("A", either(name("A"), name("A"))), ("C", either(THING, pair(UNIT, name("A")))))

    def test_samples(self):
        told = {ROWS: True, TREES: True, ROSES: True, BOXES: True, IDLES: False, ROUND: True, FLATS: True}
        for book, fair in told.items():
            for one, kind in book:
                self.assertIs(is_fair(book, name(one)), fair, one)
                self.assertIs(is_fair(book, kind), fair, one)

    def test_as_the_document_tells_it(self):
        x, y = name("X"), name("Y")
        parts = [UNIT, THING, NONE, x, y]
        kinds = parts + [pair(*both) for both in itertools.product(parts, repeat=2)]
        kinds += [either(one, two) for one in parts for two in kinds[5:]]
        for at, (first, second) in enumerate(itertools.product(kinds, repeat=2)):
            if at % 7 == 0:
                book = (("X", first), ("Y", second))
                for kind in [x, y, pair(x, y), either(x, UNIT)]:
                    self.assertEqual(is_fair(book, kind), reference.is_fair(book, kind), (book, kind))

    def test_exactly_if_there_are_finitely_many(self):
        x, y = name("X"), name("Y")
        parts = [UNIT, THING, x, y]
        kinds = [either(one, pair(two, three)) for one, two, three in itertools.product(parts, repeat=3)]
        for at, (first, second) in enumerate(itertools.product(kinds, repeat=2)):
            if at % 23 == 0:
                book = (("X", first), ("Y", second))
                # Of two names, so one behind the other at most two have no thing beside them: shapes
                # with up to four places are of a size below 19, or of ever greater ones.
                great = [counts(book, x, there, size) for there in range(5) for size in (19, 20)]
                self.assertEqual(is_fair(book, x), not any(great), book)

    def test_of_eighty_names(self):
        book = long_book(80, name("N00"))
        self.assertIs(is_fair(book, name("N00")), True)
        names = [one for one, kind in book]
        idle = tuple(zip(names, [either(name(one), THING) for one in names[1:] + names[:1]]))
        self.assertIs(is_fair(idle, name("N40")), False)
        ended = idle[:-1] + ((names[-1], THING),)
        self.assertIs(is_fair(ended, name("N00")), True)


class TestNumbers(unittest.TestCase):
    def test_the_order_of_numbers(self):
        kind = pair(either(UNIT, THING), either(THING, UNIT))
        self.assertEqual(shapes((), kind, 1, 0), (
            ("pair", ("left", ()), ("left", ())), ("pair", ("right", ()), ("right", ()))))
        self.assertEqual(shapes((), either(THING, either(THING, THING)), 1, 0), (
            ("left", ()), ("right", ("left", ())), ("right", ("right", ()))))
        bit = name("Bit")
        self.assertEqual(shapes(FLATS, pair(bit, bit), 0, 2), tuple(
            ("pair", (one, ()), (other, ())) for one in ["left", "right"] for other in ["left", "right"]))

    def test_places_stand_ahead_of_sizes(self):
        # By places, then by size: without places first, there the smaller ones first.
        kind = either(THING, either(name("Deep"), UNIT))
        book = (("Deep", either(UNIT, THING)),)
        told = [one[1] for one in shapes(book, pair(kind, pair(kind, kind)), 1, 1)]
        places = [reference.things(book, kind, one) for one in told]
        sizes = [reference.size(book, kind, one) for one in told]
        self.assertEqual(list(zip(places, sizes)), sorted(zip(places, sizes)))
        self.assertEqual(sorted(set(zip(places, sizes))), [(0, 0), (0, 1), (1, 0), (1, 1)])

    def test_all_in_order(self):
        for book, kind in SAMPLES:
            for there, at in itertools.product(range(4), range(6)):
                told = shapes(book, kind, there, at)
                self.assertIs(type(told), tuple)
                self.assertEqual(list(told), reference.shapes(book, kind, there, at))

    def test_there_and_back(self):
        for book, kind in SAMPLES:
            for there, at in itertools.product(range(4), range(6)):
                many = counts(book, kind, there, at)
                for number in range(min(many, 12)):
                    told = shape_of(book, kind, there, at, number)
                    self.assertEqual(told, reference.shapes(book, kind, there, at)[number])
                    self.assertEqual(number_of(book, kind, told), (there, at, number))
                for number in [many, many + 1, 10 ** 399]:
                    with self.assertRaises(NoShape) as held:
                        shape_of(book, kind, there, at, number)
                    self.assertEqual(held.exception.given, number)

    def test_great_numbers(self):
        for there, at in [(9, 19), (6, 20), (20, 20)]:
            kind = either(pair(name("Tree"), name("Tree")), name("Tree"))
            many = counts(TREES, kind, there, at)
            for number in [0, many // 3, many // 2, many - 1]:
                if many > 0:
                    told = shape_of(TREES, kind, there, at, number)
                    self.assertTrue(is_shape(TREES, kind, told))
                    self.assertEqual(number_of(TREES, kind, told), (there, at, number))
        units = nested(either(UNIT, UNIT), lambda kind: pair(kind, kind), 8)
        for number in [0, 1, 2 ** 255, 2 ** 256 - 1]:
            self.assertEqual(number_of((), units, shape_of((), units, 0, 0, number)), (0, 0, number))
        self.assertRaises(NoShape, shape_of, (), units, 0, 0, 2 ** 256)

    def test_just_two_thousand_shapes_and_a_few_more(self):
        five = either(UNIT, either(UNIT, either(UNIT, either(UNIT, UNIT))))
        ten, four = either(five, five), either(either(UNIT, UNIT), either(UNIT, UNIT))
        just = pair(pair(ten, ten), pair(five, four))
        told = shapes((), just, 0, 0)
        self.assertEqual((len(told), len(set(told))), (2000, 2000))
        self.assertEqual(number_of((), just, told[1999]), (0, 0, 1999))
        for more, many in [(UNIT, 2001), (either(UNIT, UNIT), 2002), (most_units(9), 2512)]:
            with self.assertRaises(TooMany) as held:
                shapes((), either(just, more), 0, 0)
            self.assertEqual(held.exception.given, many)
            self.assertEqual(counts((), either(just, more), 0, 0), many)
        self.assertEqual(shapes((), either(just, more), 1, 0), ())

    def test_shapes_that_are_too_great_for_a_number(self):
        for many, made in [(19, True), (20, False)]:
            row = row_of_places(many)
            self.assertTrue(is_shape(ROWS, name("Row"), row))
            if made:
                self.assertEqual(number_of(ROWS, name("Row"), row), (19, 20, 0))
            else:
                with self.assertRaises(InvalidValue) as held:
                    number_of(ROWS, name("Row"), row)
                self.assertIs(held.exception.given, row)
        self.assertEqual(number_of(ROWS, ROW, row_of_places(20)), (20, 20, 0))
        twenty = nested((), lambda told: ("pair", (), told), 19)
        kind = nested(THING, lambda told: pair(THING, told), 19)
        self.assertEqual(number_of((), kind, twenty), (20, 0, 0))
        with self.assertRaises(InvalidValue) as held:
            number_of((), pair(THING, kind), ("pair", (), twenty))
        self.assertEqual(held.exception.given, ("pair", (), twenty))


def most_units(times):
    return nested(UNIT, lambda kind: either(kind, kind), times)


def row_of_places(many):
    return nested(LEAF, lambda told: ("right", ("pair", (), told)), many)


class TestShape(unittest.TestCase):
    def test_the_shape_of_a_value(self):
        told = [
            ((), THING, 5, ()), ((), UNIT, (), ()), ((), pair(THING, UNIT), ("pair", 5, ()), ("pair", (), ())),
            ((), either(THING, UNIT), ("left", 5), ("left", ())), (ROWS, name("Row"), LEAF, LEAF)]
        for book, kind, value, made in told:
            self.assertEqual(shape(book, kind, value), made)

    def test_as_the_document_tells_it(self):
        for book, kind in SAMPLES:
            for there, at in itertools.product(range(3), range(5)):
                for made in reference.shapes(book, kind, there, at):
                    self.assertEqual(shape(book, kind, reference.with_things(book, kind, made, -3)), made)

    def test_of_great_values(self):
        row = nested(LEAF, lambda told: ("right", ("pair", 10 ** 399, told)), 99)
        self.assertEqual(shape(ROWS, name("Row"), row), row_of_places(99))


class TestCalls(unittest.TestCase):
    def test_numbers_that_are_none(self):
        wrong = odd_things() + [True, False, -1, -10 ** 399, "1", None, (1,), [1]]
        wrong = [one for one in wrong if not (type(one) is int and one >= 0)]
        for thing in wrong + [21, 22, 10 ** 399]:
            for call in [counts, shapes]:
                for arguments in [(thing, 0), (0, thing), (thing, thing), (thing, 21)]:
                    with self.assertRaises(InvalidNumber) as held:
                        call(ROWS, ROW, *arguments)
                    self.assertIs(held.exception.given, thing)
            for arguments in [(thing, 0, 0), (0, thing, 0), (thing, -1, None), (20, thing, -1)]:
                with self.assertRaises(InvalidNumber) as held:
                    shape_of(ROWS, ROW, *arguments)
                self.assertIs(held.exception.given, thing)
        for thing in wrong:
            with self.assertRaises(InvalidNumber) as held:
                shape_of(ROWS, ROW, 0, 0, thing)
            self.assertIs(held.exception.given, thing)
        for number in [1, 21, 10 ** 399]:
            with self.assertRaises(NoShape) as held:
                shape_of(ROWS, ROW, 0, 0, number)
            self.assertIs(held.exception.given, number)

    def test_by_the_told_names(self):
        self.assertEqual(counts(size=3, things=2, kind=name("Row"), book=ROWS), 1)
        self.assertIs(is_fair(kind=name("Row"), book=ROWS), True)
        self.assertEqual(shape_of(number=0, size=1, things=0, kind=name("Row"), book=ROWS), LEAF)
        self.assertEqual(number_of(shape=LEAF, kind=name("Row"), book=ROWS), (0, 1, 0))
        self.assertEqual(shapes(size=1, things=0, kind=name("Row"), book=ROWS), (LEAF,))
        self.assertEqual(shape(value=5, kind=THING, book=()), ())

    def test_they_are_defined_in_their_file(self):
        for function in [counts, is_fair, shape_of, number_of, shapes, shape]:
            self.assertEqual(function.__module__, module.__name__)

    def test_a_second_call_tells_the_same(self):
        for _ in range(2):
            self.assertEqual(counts(TREES, name("Tree"), 3, 7), 5)
            self.assertEqual(number_of(TREES, name("Tree"), shape_of(TREES, name("Tree"), 3, 7, 4)), (3, 7, 4))


if __name__ == "__main__":
    unittest.main()
