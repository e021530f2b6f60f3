import inspect
import itertools
import unittest

from holekinds import certificates as module
from holekinds import errors
from holekinds.certificates import (
    certify_counts, certify_finite, certify_folds, certify_loop, certify_mark, certify_number, certify_spot)
from holekinds.checker import accepts
from holekinds.counts import is_fair, shapes
from holekinds.endless import endless_paper
from holekinds.folds import fold_around, fold_of_part
from holekinds.holes import book_by, kind_by, mark, size
from holekinds.lightest import Lightest
from tests import reference
from tests.rules import OWN, SUMS, TOTAL, samples_with_rules
from tests.samples import (
    IDLES, LEAF, NONE, ROUND, ROWS, ROWS_BY_ALL, ROWS_BY_THING, SAMPLES, THING, TREES, UNIT, Odd, either,
    holes_of, name, nested, odd_things, pair)

ROW = name("Row")
VALUE = ("right", ("pair", 5, ("right", ("pair", 7, LEAF))))
SHAPE = ("right", ("pair", (), LEAF))
CONTEXT = ("right", ("left", ("pair", (), LEAF)))


class Certified(unittest.TestCase):
    def taken(self, told, word, *things):
        """The pair told is a claim of this word that accepts takes with its paper."""
        self.assertIs(type(told), tuple)
        claim, paper = told
        self.assertEqual(claim[0], word)
        self.assertEqual(claim[1:1 + len(things)], things)
        self.assertIs(accepts(claim, paper), True)
        if word not in ("endless", "folds apart"):
            self.assertEqual(paper, ())
        return claim, paper


class TestPlainOnes(Certified):
    def test_spots(self):
        for book, kind in SAMPLES:
            for hole, value in itertools.product(holes_of(book), reference.values(book, kind, 1, 3)[-2:]):
                told = reference.spots(book, kind, hole, value)
                for path in told + [(), (1,), (2,), (1, 2), (0,), (-5, 10 ** 399)]:
                    word = "spot" if path in told else "no spot"
                    claim, _ = self.taken(
                        certify_spot(book, kind, hole, value, path), word, book, kind, hole, value, path)
                    self.assertEqual(len(claim), 6)

    def test_no_paths(self):
        for thing in odd_things() + [[1, 1], (True, 1), (1, None), None, "11", {}]:
            if type(thing) is tuple and all(type(one) is int for one in thing):
                continue
            with self.assertRaises(errors.NoSpot) as held:
                certify_spot(ROWS, ROW, THING, VALUE, thing)
            self.assertIs(held.exception.given, thing)

    def test_marks(self):
        for book, kind in SAMPLES:
            for hole, value in itertools.product(holes_of(book), reference.values(book, kind, 1, 3)[-2:]):
                for path in reference.spots(book, kind, hole, value):
                    self.taken(
                        certify_mark(book, kind, hole, value, path),
                        "marked", book, kind, hole, value, path, *mark(book, kind, hole, value, path))
        for path in [(1,), (True, 1), [1, 1], None]:
            with self.assertRaises(errors.NoSpot) as held:
                certify_mark(ROWS, ROW, THING, VALUE, path)
            self.assertIs(held.exception.given, path)

    def test_counts_and_numbers(self):
        for book, kind in SAMPLES:
            for there, at in itertools.product([0, 1, 2, 20], [0, 1, 3, 20]):
                self.taken(
                    certify_counts(book, kind, there, at), "counts", book, kind, there, at,
                    reference.counts(book, kind, there, at))
            for there, at in itertools.product([0, 1, 2], [0, 1, 3]):
                for number, one in enumerate(shapes(book, kind, there, at)[:4]):
                    self.taken(certify_number(book, kind, one), "numbered", book, kind, one, there, at, number)
        long = nested(LEAF, lambda told: ("right", ("pair", (), told)), 20)
        self.assertRaises(errors.InvalidValue, certify_number, ROWS, ROW, long)

    def test_loops(self):
        for book, kind in SAMPLES:
            for value in reference.values(book, kind, 2, 4)[-3:]:
                self.taken(certify_loop(book, kind, value), "loops", book, kind, value)
        self.assertEqual(certify_loop(ROWS, ROW, VALUE)[0][4], 21)


class TestFolds(Certified):
    def test_each_sample(self):
        told = {"folds alike": 0, "folds apart": 0, None: 0}
        for book, algebra, kind, rule, _ in samples_with_rules(SAMPLES, 1, 3, 4):
            for hole in holes_of(book):
                parts = reference.values(book, hole, 2, 3)[:4] + [8] * (hole == THING)
                contexts = reference.values(book_by(book, hole), kind_by(book, kind, hole), 1, 3)[:4]
                for part, second, context in itertools.product(parts, parts, contexts):
                    things = (book, algebra, kind, rule, hole, part, second)
                    numbers = [fold_of_part(book, algebra, hole, one) for one in (part, second)]
                    around = [fold_around(book, algebra, kind, rule, hole, context, one) for one in numbers]
                    word = "folds apart" if around[0] != around[1] else None
                    word = "folds alike" if numbers[0] == numbers[1] else word
                    told[word] += 1
                    made = certify_folds(book, algebra, kind, rule, hole, context, part, second)
                    if word is None:
                        self.assertIsNone(made)
                    else:
                        claim, paper = self.taken(made, word, *things)
                        self.assertEqual(len(claim), 8)
                        self.assertEqual(paper, context if word == "folds apart" else ())
        self.assertTrue(all(many > 30 for many in told.values()), told)


class TestFinite(Certified):
    def finite(self, book, kind):
        claim, _ = self.taken(certify_finite(book, kind), "finite", book, kind)
        self.assertEqual(len(claim), 3)

    def endless(self, book, kind):
        claim, paper = self.taken(certify_finite(book, kind), "endless", book, kind)
        self.assertEqual((len(claim), len(paper)), (3, 4))
        return paper

    def test_samples(self):
        for book, kind in SAMPLES:
            if any("'" in one for one, _ in book):
                continue
            if is_fair(book, kind):
                self.finite(book, kind)
            else:
                self.endless(book, kind)

    def test_two_names_of_every_sort(self):
        x, y = name("X"), name("Y")
        parts = [UNIT, THING, NONE, x, y]
        kinds = parts + [pair(*both) for both in itertools.product(parts, repeat=2)]
        kinds += [either(one, two) for one in parts for two in kinds[5:]]
        told = {True: 0, False: 0}
        for at, (first, second) in enumerate(itertools.product(kinds, repeat=2)):
            if at % 11 == 0:
                book = (("X", first), ("Y", second))
                for kind in [x, y, pair(x, y), either(x, UNIT), pair(THING, pair(y, x))]:
                    fair = reference.is_fair(book, kind)
                    told[fair] += 1
                    (self.finite if fair else self.endless)(book, kind)
                    self.assertEqual(endless_paper(dict(book), kind) is None, fair)
        self.assertGreater(min(told.values()), 500)

    def test_three_names_in_turn(self):
        x, y, z = name("X"), name("Y"), name("Z")
        sides = [UNIT, THING, x, y, z, pair(THING, y), pair(UNIT, z), pair(z, x), pair(y, y)]
        kinds = [either(*both) for both in itertools.product(sides, repeat=2)]
        for at, (first, second, third) in enumerate(itertools.product(kinds, repeat=3)):
            if at % 997 == 0:
                book = (("X", first), ("Y", second), ("Z", third))
                (self.finite if reference.is_fair(book, x) else self.endless)(book, x)

    def test_by_hand(self):
        self.assertEqual(
            self.endless(IDLES, name("Idle")), ("Idle", LEAF, ("right", ("right", LEAF)), ("left", ())))
        # The inner context goes by the part that is without things, though the other one is as small.
        kind = either(UNIT, pair(either(THING, UNIT), name("Some")))
        self.assertEqual(self.endless((("Some", kind),), name("Some")), (
            "Some", LEAF, ("right", ("right", ("right", ("pair", ("right", ()), LEAF)))), LEAF))

    def test_the_least_paper_of_all(self):
        # First of the names is a great one; Idle shows it with a paper that is small.
        names = ["N" + str(at).zfill(2) for at in range(40)]
        pairs = [(one, pair(name(two), name(two))) for one, two in zip(names, names[1:])]
        great = tuple(sorted([
            ("First", either(pair(name("N00"), name("First")), name("N00"))), (names[-1], UNIT),
            ("Idle", either(UNIT, name("Idle"))), *pairs]))
        for kind in [either(name("First"), name("Idle")), pair(name("Idle"), either(UNIT, name("First")))]:
            paper = self.endless(great, kind)
            self.assertEqual(paper[0], "Idle")
            self.assertLess(size(great, name("Idle"), paper[3]), 3)

    def test_long_ways(self):
        names = ["N" + str(at).zfill(2) for at in range(80)]
        kinds = [either(pair(THING, name(one)), THING) for one in names[1:]] + [either(name("N79"), UNIT)]
        book = tuple(zip(names, kinds))
        paper = self.endless(book, name("N00"))
        self.assertEqual((paper[0], repr(paper[1]).count("pair"), paper[3]), ("N79", 79, ("right", ())))
        turn = tuple(zip(names, [either(name(one), THING) for one in names[1:] + names[:1]]))
        self.endless(turn, name("N40"))
        self.finite(turn[:-1] + (("N79", THING),), name("N40"))

    def test_great_kinds(self):
        deep = nested(either(name("Idle"), UNIT), lambda kind: pair(either(THING, UNIT), kind), 27)
        self.endless((("Idle", deep),), name("Idle"))
        wide = nested(either(UNIT, name("Idle")), lambda kind: pair(kind, kind), 8)
        self.endless((("Idle", wide),), pair(name("Idle"), wide))

    def test_names_by_holes(self):
        for book, kind, index in [
                (ROWS_BY_THING, ROW, 1), (ROWS_BY_ALL, name("Row'"), 1), (book_by(IDLES, THING), name("Idle"), 1),
                (book_by(IDLES, name("Idle")), THING, 1), (book_by(TREES, THING), UNIT, 1)]:
            with self.assertRaises(errors.InvalidBook) as held:
                certify_finite(book, kind)
            self.assertEqual(held.exception.index, index)
        for book, kind in [(ROWS_BY_THING, None), (ROWS_BY_THING, name("Row'Row"))]:
            self.assertRaises(errors.InvalidKind, certify_finite, book, kind)
        with self.assertRaises(errors.InvalidBook) as held:
            certify_finite(book_by((("A", UNIT), ("B", THING)), name("A")), UNIT)
        self.assertEqual(held.exception.index, 1)

    def test_names_without_shapes(self):
        for kind in [name("A"), name("C"), pair(name("A"), name("B"))]:
            self.finite(ROUND, kind)
        lost = (("Idle", either(UNIT, name("Idle"))), ("Lost", pair(name("Idle"), name("Lost"))))
        self.finite(lost, name("Lost"))
        self.endless(lost, either(name("Lost"), name("Idle")))


class TestLightest(unittest.TestCase):
    def test_as_small_as_may_be(self):
        for book, kind in SAMPLES:
            for lets_things in [True, False]:
                told = Lightest(dict(book), lets_things).of_kind(kind)
                sizes = [
                    at for at in range(7) for there in range(4 if lets_things else 1)
                    if reference.shapes(book, kind, there, at)]
                self.assertEqual(told is None, not reference.has_shape(book, kind, lets_things))
                if told is not None:
                    self.assertEqual(told[0], min(sizes))
                    self.assertEqual(reference.size(book, kind, told[1]), told[0])
                    places = reference.things(book, kind, told[1])
                    self.assertIn(told[1], reference.shapes(book, kind, places, told[0]))
                    self.assertTrue(lets_things or places == 0)


    def test_a_smaller_shape_that_is_found_later(self):
        # A is known by B, which is great, ahead of C, which is known by D alone.
        book = (
            ("A", either(name("B"), name("C"))), ("Aa", UNIT), ("B", pair(name("Aa"), name("Aa"))), ("C", name("D")),
            ("D", UNIT))
        self.assertEqual(Lightest(dict(book), True).known["A"], (3, ("right", ())))


class TestLeast(unittest.TestCase):
    """Of all papers one is told that is as small as may be."""

    def least_size(self, book, kind, first, most_things=6):
        """The least size, from the first one on, of which there is a shape; None for none that is small."""
        for at in range(first, 13):
            if any(reference.counts(book, kind, there, at) for there in range(most_things + 1)):
                return at
        return None

    def is_least(self, book, kind):
        one, context, inner, part = endless_paper(dict(book), kind)
        hole = name(one)
        by_hole = reference.book_by(book, hole)
        told = (
            reference.size(by_hole, reference.kind_by(kind, hole), context)
            + reference.size(by_hole, reference.kind_by(hole, hole), inner) + reference.size(book, hole, part))
        sizes = []
        for other, _ in book:
            hole = name(other)
            by_hole = reference.book_by(book, hole)
            three = [
                self.least_size(by_hole, reference.kind_by(kind, hole), 0),
                self.least_size(by_hole, reference.kind_by(hole, hole), 1, 0), self.least_size(book, hole, 1)]
            if None not in three:
                sizes.append(sum(three))
        self.assertEqual(told, min(sizes), (book, kind))

    def test_two_names(self):
        x, y = name("X"), name("Y")
        sides = [UNIT, THING, pair(x, y), pair(UNIT, x), pair(y, THING), either(x, y), either(y, y), pair(x, x), x, y]
        kinds = [either(*both) for both in itertools.product(sides, repeat=2)] + [pair(x, either(UNIT, y)), UNIT]
        many = 0
        for at, (first, second) in enumerate(itertools.product(kinds, repeat=2)):
            book = (("X", first), ("Y", second))
            if at % 19 == 0 and not reference.is_fair(book, x):
                many += 1
                for kind in [x, y, pair(y, x), either(pair(x, x), y)]:
                    if not reference.is_fair(book, kind):
                        self.is_least(book, kind)
        self.assertGreater(many, 100)

    def test_names_in_turn(self):
        names = ["V", "W", "X", "Y", "Z"]
        v, w, x, y, z = [name(one) for one in names]
        sides = [UNIT, w, pair(x, y), pair(z, w), either(v, pair(y, y)), pair(either(z, UNIT), x), pair(v, THING)]
        kinds = [either(*both) for both in itertools.product(sides, repeat=2)]
        many = 0
        for at in range(400):
            told = [kinds[(at * 31 + time * time * 7 + at * at * (time + 1)) % len(kinds)] for time in range(5)]
            book = tuple(zip(names, told))
            for kind in [v, pair(w, z), either(y, pair(x, v))]:
                if not reference.is_fair(book, kind):
                    many += 1
                    self.is_least(book, kind)
        self.assertGreater(many, 100)

    def test_the_nearer_way_of_two(self):
        # Far leads to Idle by one name beside a great shape, or by two names beside none.
        book = (
            ("Far", either(pair(name("Five"), name("Idle")), name("Near"))), ("Five", pair(name("Four"), name("Two"))),
            ("Four", pair(name("Two"), name("Two"))), ("Idle", either(UNIT, name("Idle"))), ("Near", name("Nearer")),
            ("Nearer", name("Idle")), ("Two", name("Unit")), ("Unit", UNIT))
        self.is_least(book, name("Far"))
        self.assertEqual(endless_paper(dict(book), name("Far"))[1], ("right", LEAF))


RIGHT = {
    "book": ROWS, "kind": ROW, "hole": THING, "value": VALUE, "path": (1, 1), "things": 1, "size": 2, "shape": SHAPE,
    "algebra": SUMS, "rule": OWN, "context": CONTEXT, "part": 5, "second": 6}
WRONG = {
    "book": ("InvalidBook", [None, list(ROWS), (("Row", name("Tree")),)]), "kind": ("InvalidKind", [None, name("Tree")]),
    "hole": ("InvalidHole", [None, name("Tree"), UNIT]), "value": ("InvalidValue", [None, SHAPE, ("left", 5)]),
    "path": ("NoSpot", [None, [1, 1], (True, 1)]), "things": ("InvalidNumber", [None, -1, 21, True]),
    "size": ("InvalidNumber", [None, -1, 21, True]), "shape": ("InvalidValue", [None, VALUE, ()]),
    "algebra": ("InvalidAlgebra", [None, (), (("Row", OWN),)]), "rule": ("InvalidRule", [None, TOTAL, ("answer", True, 0)]),
    "context": ("InvalidValue", [None, VALUE, LEAF]), "part": ("InvalidValue", [None, True, LEAF]),
    "second": ("InvalidValue", [None, True, LEAF, Odd()])}
FUNCTIONS = [
    certify_spot, certify_mark, certify_counts, certify_number, certify_finite, certify_folds, certify_loop]


class TestArguments(Certified):
    def refused(self, function, arguments, word, thing):
        with self.assertRaises(errors.HoleError) as held:
            function(**arguments)
        self.assertEqual(type(held.exception).__name__, word)
        if word not in ("InvalidBook", "InvalidAlgebra"):
            self.assertIs(held.exception.given, thing)

    def test_each_wrong_by_itself_and_the_first_of_several(self):
        for function in FUNCTIONS:
            parameters = list(inspect.signature(function).parameters)
            for many in range(1, len(parameters) + 1):
                for wrong in itertools.combinations(parameters, many):
                    word, told = WRONG[wrong[0]]
                    for thing in told:
                        arguments = {one: RIGHT[one] for one in parameters}
                        arguments.update({one: None for one in wrong[1:]})
                        arguments[wrong[0]] = thing
                        self.refused(function, arguments, word, thing)

    def test_by_position_and_by_the_told_names(self):
        told = {
            certify_spot: ["book", "kind", "hole", "value", "path"], certify_counts: ["book", "kind", "things", "size"],
            certify_mark: ["book", "kind", "hole", "value", "path"], certify_number: ["book", "kind", "shape"],
            certify_finite: ["book", "kind"], certify_loop: ["book", "kind", "value"],
            certify_folds: ["book", "algebra", "kind", "rule", "hole", "context", "part", "second"]}
        for function in FUNCTIONS:
            by_position = function(*[RIGHT[one] for one in told[function]])
            self.assertEqual(by_position, function(**{one: RIGHT[one] for one in reversed(told[function])}))
            self.assertIs(accepts(*by_position), True)

    def test_they_are_defined_in_their_file(self):
        for function in FUNCTIONS:
            self.assertEqual(function.__module__, module.__name__)


if __name__ == "__main__":
    unittest.main()
