import itertools
import unittest

from holekinds import checker as module
from holekinds.checker import accepts
from holekinds.counts import counts, is_fair, number_of, shape, shapes
from holekinds.cursors import behind_deeds, cursors
from holekinds.folds import fold, fold_around, fold_of_part
from holekinds.holes import book_by, fill, kind_by, mark, size, spots, things
from holekinds.loops import rounds_of
from holekinds.twoholes import mark_two, turned_about
from tests import reference
from tests.rules import OWN, SUMS, TOTAL, samples_with_rules
from tests.samples import (
    BOXES, IDLES, LEAF, NONE, ROSES, ROUND, ROWS, ROWS_BY_THING, SAMPLES, THING, TREES, UNIT, Odd, OddText,
    OddTuple, either, holes_of, name, nested, odd_things, pair)

ROW = name("Row")
VALUE = ("right", ("pair", 5, ("right", ("pair", 1, LEAF))))
CONTEXT = ("right", ("left", ("pair", (), VALUE[1][2])))
TWO = ("right", ("left", ("right", ("pair", (), ("right", ("left", ("pair", (), LEAF)))))))
LATER = ("right", ("right", ("left", ("pair", (), ("right", ("left", ("pair", (), LEAF)))))))
IDLE = (("Idle", either(UNIT, name("Idle"))),)
INNER = ("right", ("right", LEAF))

# A claim of each sort, with a paper that shows it.
RIGHT = [
    (("spot", ROWS, ROW, THING, VALUE, (1, 1)), ()),
    (("no spot", ROWS, ROW, THING, VALUE, (1, 2)), ()),
    (("marked", ROWS, ROW, THING, VALUE, (1, 2, 1, 1),
      ("right", ("right", ("pair", 5, ("right", ("left", ("pair", (), LEAF)))))), 1), ()),
    (("counts", ROWS, ROW, 1, 2, 1), ()),
    (("numbered", ROWS, ROW, ("right", ("pair", (), LEAF)), 1, 2, 0), ()),
    (("finite", ROWS, ROW), ()),
    (("endless", IDLE, name("Idle")), ("Idle", LEAF, INNER, LEAF)),
    (("cursors", ROWS, ROW, THING, ("right", ("pair", 5, LEAF)), 1), ()),
    (("led", ROWS, ROW, THING, VALUE, (("next",), ("put", 0), ("former",), ("undo",), ("undo",)), VALUE), ()),
    (("turned about", ROWS, ROW, THING, THING, TWO, LATER), ()),
    (("folds to", ROWS, SUMS, ROW, OWN, ("right", ("pair", 1, LEAF)), 1), ()),
    (("folds alike", ROWS, SUMS, ROW, OWN, ROW, VALUE, ("right", ("pair", 6, LEAF))), ()),
    (("folds apart", ROWS, SUMS, ROW, OWN, ROW, VALUE, ("right", ("pair", 1, LEAF))),
     ("right", ("right", ("right", ("pair", 5, LEAF))))),
    (("loops", (), UNIT, (), 1), ())]


def spoilt(thing):
    """The thing with one place of it, at any depth, of another sort that is like it."""
    if type(thing) is int:
        yield from [bool(thing)] if thing in (0, 1) else []
        yield from [str(thing), (thing,), None]
    elif type(thing) is str:
        yield from [OddText(thing), thing + " ", None, (thing,), thing.encode()]
    else:
        yield from [list(thing), OddTuple(thing), thing + (None,), None, {}]
        for at, one in enumerate(thing):
            for other in spoilt(one):
                yield thing[:at] + (other,) + thing[at + 1:]


class TestClaims(unittest.TestCase):
    def so(self, *claim, paper=()):
        self.assertIs(accepts(claim, paper), True, claim)
        # No claim has another paper than its own.
        if claim[0] not in ("endless", "folds apart"):
            for other in [None, [], False, 0, "", {}, ((),), LEAF, OddTuple(), Odd(), claim]:
                self.assertIs(accepts(claim, other), False, claim)

    def not_so(self, *claim, paper=()):
        self.assertIs(accepts(claim, paper), False, claim)

    def test_one_of_each_sort(self):
        self.assertEqual(sorted(module.THINGS), sorted(claim[0] for claim, _ in RIGHT))
        for claim, paper in RIGHT:
            self.so(*claim, paper=paper)

    def test_each_place_of_another_sort(self):
        for claim, paper in RIGHT:
            for other in spoilt(claim):
                self.assertIs(accepts(other, paper), False, other)
            for other in spoilt(paper):
                self.assertIs(accepts(claim, other), False, other)

    def test_too_few_and_too_many(self):
        for claim, paper in RIGHT:
            for many in range(len(claim)):
                self.assertIs(accepts(claim[:many], paper), False)
            for more in [(), None, 0, claim[-1], paper]:
                self.assertIs(accepts(claim + (more,), paper), False)
                self.assertIs(accepts(claim[:1] + (more,) + claim[1:], paper), False)

    def test_each_thing_whatever_it_is(self):
        for claim, paper in RIGHT:
            for at in range(len(claim)):
                for thing in odd_things():
                    other = claim[:at] + (thing,) + claim[at + 1:]
                    if type(thing) is int and type(claim[at]) is int and thing == claim[at]:
                        continue
                    # A path of whole numbers that is no spot is what this claim tells.
                    is_path = type(thing) is tuple and [type(one) for one in thing] == [int]
                    self.assertIs(accepts(other, paper), claim[0] == "no spot" and at == 5 and is_path)
            for thing in odd_things():
                self.assertIs(accepts(claim, thing), False)

    def test_what_is_no_claim_at_all(self):
        for thing in odd_things() + ["spot", ("spot",), ("finite",), ("sure", ROWS, ROW), ("", ROWS, ROW), ()]:
            for paper in [(), None, Odd(), LEAF]:
                self.assertIs(accepts(thing, paper), False)
        for claim, paper in RIGHT:
            for other, _ in RIGHT:
                if other[0] != claim[0] and {other[0], claim[0]} != {"folds alike", "folds apart"}:
                    self.assertIs(accepts((other[0],) + claim[1:], paper), False)
            self.assertIs(accepts((claim[0].title(),) + claim[1:], paper), False)

    def test_spots(self):
        for book, kind in SAMPLES:
            for hole, value in itertools.product(holes_of(book), reference.values(book, kind, 1, 3)[-2:]):
                told = reference.spots(book, kind, hole, value)
                for path in [path for many in range(4) for path in itertools.product([1, 2], repeat=many)] + told:
                    self.assertIs(accepts(("spot", book, kind, hole, value, path), ()), path in told)
                    self.assertIs(accepts(("no spot", book, kind, hole, value, path), ()), path not in told)
        for path in [(True, 1), (True, True), [1, 1], None, (1, "1"), "11", (1, None)]:
            self.not_so("spot", ROWS, ROW, THING, VALUE, path)
            self.not_so("no spot", ROWS, ROW, THING, VALUE, path)
        for path in [(0,), (-1, 1), (10 ** 399,)]:
            self.so("no spot", ROWS, ROW, THING, VALUE, path)

    def test_marks(self):
        for book, kind in SAMPLES:
            for hole, value in itertools.product(holes_of(book), reference.values(book, kind, 1, 3)[-2:]):
                told = reference.spots(book, kind, hole, value)
                for path, other in itertools.product(told, told):
                    cursor = mark(book, kind, hole, value, other)
                    self.assertIs(
                        accepts(("marked", book, kind, hole, value, path, *cursor), ()), path == other)
        context, part = mark(ROWS, ROW, THING, VALUE, (1, 1))
        self.so("marked", ROWS, ROW, THING, VALUE, (1, 1), context, part)
        self.not_so("marked", ROWS, ROW, THING, VALUE, (1, 1), part, context)
        self.not_so("marked", ROWS, ROW, THING, VALUE, (1, 1), context, 6)
        self.not_so("marked", ROWS, ROW, THING, VALUE, (1,), context, part)
        self.not_so("marked", ROWS, ROW, THING, VALUE, (True, 1), context, part)

    def test_counts_and_numbers(self):
        for book, kind in SAMPLES:
            for there, at in itertools.product([0, 1, 2, 20], [0, 1, 3, 20]):
                many = counts(book, kind, there, at)
                self.so("counts", book, kind, there, at, many)
                for near in [many + 1, many - 1, -many - 1]:
                    self.not_so("counts", book, kind, there, at, near)
            for there, at in itertools.product([0, 1, 2], [0, 1, 3]):
                for number, one in enumerate(shapes(book, kind, there, at)[:4]):
                    self.so("numbered", book, kind, one, there, at, number)
                    for near in [(there + 1, at, number), (there, at + 1, number), (there, at, number + 1)]:
                        self.not_so("numbered", book, kind, one, *near)
        for there, at in [(21, 1), (1, 21), (-1, 1), (1, -1)]:
            self.not_so("counts", ROWS, ROW, there, at, 0)
        row = nested(LEAF, lambda told: ("right", ("pair", (), told)), 20)
        self.not_so("numbered", ROWS, ROW, row, 20, 21, 0)
        self.not_so("numbered", ROWS, ROW, VALUE, 2, 3, 0)

    def test_cursors(self):
        for book, kind in SAMPLES:
            for hole, value in itertools.product(holes_of(book), reference.values(book, kind, 2, 3)[-3:]):
                many = len(reference.spots(book, kind, hole, value))
                self.so("cursors", book, kind, hole, value, many)
                self.not_so("cursors", book, kind, hole, value, many + 1)
                self.not_so("cursors", book, kind, hole, value, many - 1)

    def test_what_deeds_lead_to(self):
        rows = [
            (), (("next",),), (("put", 8), ("next",), ("put", 9), ("undo",)), (("last",), ("put", 7), ("former",)),
            (("former",), ("out",), ("in",), ("put", -3))]
        for deeds in rows:
            context, part = behind_deeds(ROWS, ROW, THING, *cursors(ROWS, ROW, THING, VALUE)[0], deeds)
            other = fill(ROWS, ROW, THING, context, part)
            self.so("led", ROWS, ROW, THING, VALUE, deeds, other)
            self.not_so("led", ROWS, ROW, THING, VALUE, deeds, LEAF)
            self.not_so("led", ROWS, ROW, THING, VALUE, deeds + (("put", 100),), other)
        self.not_so("led", ROWS, ROW, THING, LEAF, (), LEAF)
        self.so("led", ROWS, ROW, ROW, LEAF, (), LEAF)
        self.not_so("led", ROWS, ROW, THING, VALUE, (("next",),) * 201, VALUE)
        self.not_so("led", ROWS, ROW, THING, VALUE, (("put", True),), ("right", ("pair", 1, VALUE[1][2])))
        self.not_so("led", ROWS, ROW, THING, VALUE, (("put", 1),), ("right", ("pair", True, VALUE[1][2])))
        self.so("led", ROWS, ROW, THING, VALUE, (("put", 1),), ("right", ("pair", 1, VALUE[1][2])))

    def test_turned_about(self):
        found = 0
        for book, kind in SAMPLES:
            for hole, other in itertools.product(holes_of(book), repeat=2):
                made = book_by(book, hole), kind_by(book, kind, hole)
                made = book_by(made[0], other), kind_by(*made, other)
                told = reference.values(*made, 1, 2)[-2:]
                laters = [turned_about(book, kind, hole, other, one) for one in told]
                for (one, later), (two, _) in itertools.product(list(zip(told, laters)), repeat=2):
                    found += 1
                    self.assertIs(accepts(("turned about", book, kind, hole, other, two, later), ()), one == two)
        self.assertGreater(found, 100)
        self.not_so("turned about", ROWS, ROW, THING, THING, LATER, LATER)
        two = mark_two(ROWS, ROW, THING, ROW, VALUE, (1, 1), (1, 2))[0]
        later = turned_about(ROWS, ROW, THING, ROW, two)
        self.so("turned about", ROWS, ROW, THING, ROW, two, later)
        self.not_so("turned about", ROWS, ROW, ROW, THING, two, later)
        self.so("turned about", ROWS, ROW, ROW, THING, later, two)

    def test_folds_and_loops(self):
        for book, algebra, kind, rule, values in samples_with_rules(SAMPLES, 2, 3, 2):
            for value in values[-3:]:
                number = fold(book, algebra, kind, rule, value)
                self.so("folds to", book, algebra, kind, rule, value, number)
                self.not_so("folds to", book, algebra, kind, rule, value, number + 1)
                self.so("loops", book, kind, value, rounds_of(book, kind, value))
                self.not_so("loops", book, kind, value, rounds_of(book, kind, value) - 1)
        self.not_so("folds to", ROWS, (), ROW, OWN, LEAF, 0)
        self.not_so("folds to", ROWS, SUMS, ROW, TOTAL, LEAF, 0)
        self.not_so("folds to", ROWS, SUMS, ROW, OWN, LEAF, False)
        self.so("folds to", ROWS, SUMS, ROW, OWN, LEAF, 0)


class TestFoldsAlikeAndApart(unittest.TestCase):
    def test_each_sample(self):
        alike, apart = 0, 0
        for book, algebra, kind, rule, _ in samples_with_rules(SAMPLES, 1, 3, 3):
            for hole in holes_of(book):
                parts = reference.values(book, hole, 2, 3)[:4] + [8] * (hole == THING)
                contexts = reference.values(book_by(book, hole), kind_by(book, kind, hole), 1, 3)[:6]
                for part, second in itertools.product(parts, repeat=2):
                    things_told = (book, algebra, kind, rule, hole, part, second)
                    is_alike = fold_of_part(book, algebra, hole, part) == fold_of_part(book, algebra, hole, second)
                    alike += is_alike
                    self.assertIs(accepts(("folds alike", *things_told), ()), is_alike)
                    self.assertIs(accepts(("folds apart", *things_told), ()), self.shows(*things_told, ()))
                    for context in contexts:
                        self.assertIs(accepts(("folds alike", *things_told), context), context == () and is_alike)
                        shows = self.shows(*things_told, context)
                        apart += shows
                        self.assertIs(accepts(("folds apart", *things_told), context), shows)
                        self.assertFalse(shows and is_alike)
        self.assertGreater(alike, 30)
        self.assertGreater(apart, 30)

    def shows(self, book, algebra, kind, rule, hole, part, second, context):
        """Whether the context is one, and shows the parts apart."""
        if context not in reference_contexts(book, kind, hole):
            return False
        told = [
            fold(book, algebra, kind, rule, fill(book, kind, hole, context, one)) for one in (part, second)]
        return told[0] != told[1]

    def test_contexts_that_do_not_show_it(self):
        blind = (("Row", ("case", ("number", 0), ("plus", ("take", 0, 0), ("answer", 1, 1)))),)
        one, other = LEAF, ("right", ("pair", 5, LEAF))
        for rule, context, shows in [
                (OWN, LEAF, True), (("answer", 0, 3), LEAF, False),
                (OWN, ("right", ("right", ("right", ("pair", 7, LEAF)))), True)]:
            claim = (ROWS, blind, ROW, rule, ROW, one, other)
            self.assertIs(accepts(("folds apart", *claim), context), shows)
            self.assertIs(accepts(("folds alike", *claim), ()), False)
        # No thing is looked at: parts of unlike numbers, but no context shows it.
        claim = (ROWS, blind, ROW, OWN, THING, 5, 6)
        self.assertIs(accepts(("folds alike", *claim), ()), False)
        self.assertIs(accepts(("folds apart", *claim), CONTEXT), False)

    def test_what_fold_does_not_take(self):
        good = (ROWS, SUMS, ROW, OWN, ROW, VALUE, ("right", ("pair", 6, LEAF)))
        wrong = {
            0: [(), ROWS * 2, None], 1: [(), None, (("Row", OWN),)], 2: [name("Tree"), None, UNIT, name("Row'")],
            3: [TOTAL, None, ("answer", True, 0), ["answer", 1, 0]], 4: [name("Tree"), UNIT, THING, None],
            5: [5, (), None, ("right", ("pair", True, LEAF))], 6: [5, (), None, ("right", ("pair", "6", LEAF))]}
        for at, told in wrong.items():
            for thing in told:
                claim = good[:at] + (thing,) + good[at + 1:]
                self.assertIs(accepts(("folds alike", *claim), ()), False)
                self.assertIs(accepts(("folds apart", *claim), LEAF), False)
        self.assertIs(accepts(("folds alike", *good), ()), True)


def reference_contexts(book, kind, hole):
    return reference.values(book_by(book, hole), kind_by(book, kind, hole), 1, 3)


class TestFiniteAndEndless(unittest.TestCase):
    def test_just_one_of_both_has_a_paper(self):
        for book, kind in SAMPLES:
            written = all("'" not in one for one, _ in book)
            papers = papers_near(book, kind) if written else [()]
            self.assertIs(accepts(("finite", book, kind), ()), written and is_fair(book, kind))
            found = [paper for paper in papers if accepts(("endless", book, kind), paper)]
            if is_fair(book, kind) or not written:
                self.assertEqual(found, [])
        self.assertTrue([one for one in papers_near(IDLES, name("Idle")) if accepts(("endless", IDLES, name("Idle")), one)])

    def test_what_is_accepted_is_so(self):
        """The shapes that the paper tells of are unlike, with as many places."""
        many = 0
        for book, kind in SAMPLES + [(IDLE, name("Idle")), (IDLE, pair(THING, name("Idle")))]:
            if any("'" in one for one, _ in book):
                continue
            for paper in papers_near(book, kind):
                if accepts(("endless", book, kind), paper):
                    many += 1
                    one, context, inner, part = paper
                    hole, told = name(one), []
                    for _ in range(4):
                        told.append(reference.fill(book, kind, hole, context, part))
                        part = reference.fill(book, hole, hole, inner, part)
                    self.assertEqual(len(set(told)), 4)
                    self.assertEqual(len({reference.things(book, kind, one) for one in told}), 1)
        self.assertGreater(many, 10)

    def test_papers_that_are_wrong_for_one_condition_alone(self):
        # Other leads to Idle, beside a thing; Lost has no shape; Far is not met.
        book = (
            ("Far", either(THING, name("Far"))), ("Idle", either(UNIT, either(pair(THING, name("Idle")), name("Idle")))),
            ("Lost", either(name("Lost"), name("Lost"))), ("Other", pair(THING, name("Idle"))))
        kind = name("Other")
        idle, again = ("right", ("pair", (), LEAF)), ("right", ("right", ("right", LEAF)))
        good = ("Idle", idle, again, LEAF)
        self.assertIs(accepts(("endless", book, kind), good), True)
        more = [
            ("Idle", idle, again, ("right", ("left", ("pair", (), LEAF)))),
            ("Idle", ("right", ("pair", (), ("right", ("right", ("left", ("right", ("pair", (), LEAF))))))), again, LEAF),
            ("Idle", idle, ("right", ("right", ("right", again))), LEAF)]
        for paper in more:
            self.assertIs(accepts(("endless", book, kind), paper), True)
        wrong = [
            # No name of the BOOK, or another one of which the rest is no shape.
            ("Idles",) + good[1:], ("idle",) + good[1:], (name("Idle"),) + good[1:], ("Far",) + good[1:], ("Idle'",) + good[1:],
            # No shape of the kind by the name: none, a value, one of the name by itself.
            ("Idle", LEAF, again, LEAF), ("Idle", ("right", ("pair", 5, LEAF)), again, LEAF), ("Idle", again, again, LEAF),
            ("Idle", ("left", ("pair", (), LEAF)), again, LEAF),
            # No inner one: the whole, one with a place, no shape at all, one of the kind.
            ("Idle", idle, LEAF, LEAF), ("Idle", idle, ("right", ("right", ("left", ("right", ("pair", (), LEAF))))), LEAF),
            ("Idle", idle, ("right", LEAF), LEAF), ("Idle", idle, idle, LEAF),
            # No shape of the name.
            ("Idle", idle, again, ()), ("Idle", idle, again, ("right", ("left", ("pair", 5, LEAF)))),
            ("Idle", idle, again, ("right", ("right", ()))), ("Idle", idle, again, ("pair", (), LEAF)),
            # The forms.
            good[:3], good + ((),), list(good), (), None, OddTuple(good), (OddText("Idle"),) + good[1:], "Idle"]
        for paper in wrong:
            self.assertIs(accepts(("endless", book, kind), paper), False)
        # Far leads idly to itself, but nothing of Other's leads to it; Lost has no shape.
        self.assertIs(accepts(("endless", book, name("Far")), ("Far", LEAF, ("right", ("right", LEAF)), ("left", ()))), True)
        for context in [LEAF, ("left", ("pair", LEAF, LEAF)), idle]:
            self.assertIs(accepts(("endless", book, kind), ("Far", context, ("right", ("right", LEAF)), ("left", ()))), False)
        for part in [LEAF, (), ("right", LEAF)]:
            self.assertIs(
                accepts(("endless", book, name("Lost")), ("Lost", LEAF, ("right", ("left", LEAF)), part)), False)

    def test_books_with_names_by_holes_have_no_paper(self):
        by_thing = book_by(IDLES, THING)
        for book, kind in [(ROWS_BY_THING, ROW), (ROWS_BY_THING, THING), (book_by(IDLE, THING), name("Idle"))]:
            self.assertIs(accepts(("finite", book, kind), ()), False)
        paper = ("Idle", LEAF, ("right", ("right", LEAF)), ("left", ()))
        self.assertIs(accepts(("endless", by_thing, name("Idle")), paper), False)
        self.assertIs(accepts(("endless", book_by(IDLE, THING), name("Idle")), ("Idle", LEAF, INNER, LEAF)), False)

    def test_what_is_fair_is_finite(self):
        for book, kind in [
                ((), THING), ((), NONE), (TREES, name("Tree")), (ROSES, name("Stem")), (BOXES, name("Twin")),
                (ROUND, name("A")), ((("Loop", name("Loop")),), name("Loop"))]:
            self.assertIs(accepts(("finite", book, kind), ()), True)
            self.assertIs(accepts(("endless", book, kind), ()), False)
        for book, kind in [(IDLE, name("Idle")), (IDLES, name("Again")), (IDLE, pair(THING, name("Idle")))]:
            self.assertIs(accepts(("finite", book, kind), ()), False)
        self.assertIs(accepts(("finite", IDLE, pair(NONE, name("Idle"))), ()), True)


def papers_near(book, kind):
    """Papers of small shapes, for each name."""
    told = []
    for one, _ in book:
        hole = name(one)
        by_hole = book_by(book, hole)
        contexts = small_shapes(by_hole, kind_by(book, kind, hole))
        inner = small_shapes(by_hole, kind_by(book, hole, hole))
        told += [(one, *three) for three in itertools.product(contexts, inner, small_shapes(book, hole))]
    return told


def small_shapes(book, kind):
    """A few shapes, first those without places."""
    return [
        shape(book, kind, reference.with_things(book, kind, one))
        for there in range(2) for at in range(4) for one in reference.shapes(book, kind, there, at)][:5]


class TestCalls(unittest.TestCase):
    def test_by_the_told_names(self):
        for claim, paper in RIGHT:
            self.assertIs(accepts(paper=paper, claim=claim), True)

    def test_it_is_defined_in_its_file(self):
        self.assertEqual(accepts.__module__, module.__name__)

    def test_nothing_is_changed(self):
        claim = ["spot", ROWS, ROW, THING, VALUE, [1, 1]]
        self.assertIs(accepts(tuple(claim), ()), False)
        self.assertEqual(claim, ["spot", ROWS, ROW, THING, VALUE, [1, 1]])

    def test_the_points_agree(self):
        told = shape(ROWS, ROW, VALUE)
        self.assertIs(accepts(("numbered", ROWS, ROW, told, *number_of(ROWS, ROW, told)), ()), True)
        self.assertEqual((things(ROWS, ROW, VALUE), size(ROWS, ROW, VALUE)), number_of(ROWS, ROW, told)[:2])
        self.assertIs(accepts(("cursors", ROWS, ROW, ROW, VALUE, len(spots(ROWS, ROW, ROW, VALUE))), ()), True)
        one, other = [fold_around(ROWS, SUMS, ROW, OWN, ROW, LEAF, number) for number in (6, 7)]
        self.assertNotEqual(one, other)


if __name__ == "__main__":
    unittest.main()
