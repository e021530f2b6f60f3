import itertools
import unittest

from holekinds import cursors as module
from holekinds.books import is_value
from holekinds.cursors import (
    behind_deeds, context_within, cursors, first_within, former_one, next_one, out_of)
from holekinds.errors import InvalidDeeds, InvalidHole, InvalidValue
from holekinds.holes import book_by, fill, kind_by, mark, size, spot_of, spots
from tests import reference
from tests.samples import (
    BOXES, IDLES, LEAF, LOST, ROSES, ROUND, ROWS, ROWS_BY_ALL, SAMPLES, THING, TREES, UNIT, Odd, OddTuple,
    either, holes_of, name, nested, node, odd_things, pair, row_of, samples_with_holes)

WORDS = ["next", "former", "first", "last", "out", "in"]


class TestCursors(unittest.TestCase):
    def test_some(self):
        self.assertEqual(cursors((), THING, THING, 5), (((), 5),))
        self.assertEqual(cursors((), UNIT, THING, ()), ())
        self.assertEqual(
            cursors((), pair(THING, THING), THING, ("pair", 5, 6)),
            ((("left", ("pair", (), 6)), 5), (("right", ("pair", 5, ())), 6)))
        self.assertEqual(
            cursors(ROWS, name("Row"), name("Row"), row_of(5)),
            ((LEAF, row_of(5)), (("right", ("right", ("right", ("pair", 5, LEAF)))), LEAF)))
        self.assertEqual(cursors(ROWS, name("Row"), THING, LEAF), ())
        self.assertEqual(cursors(LOST, either(UNIT, name("Lost")), name("Lost"), LEAF), ())

    def test_they_are_the_spots_marked_in_their_order(self):
        for book, kind, hole, values in samples_with_holes():
            for value in values:
                told = cursors(book, kind, hole, value)
                self.assertIs(type(told), tuple)
                self.assertEqual(
                    told, tuple(mark(book, kind, hole, value, path) for path in spots(book, kind, hole, value)))
                self.assertEqual(list(told), reference.cursors(book, kind, hole, value))

    def test_in_books_by_holes_with_names_by_holes(self):
        for book, kind, hole, _ in samples_with_holes():
            by_hole, kind_made = book_by(book, hole), kind_by(book, kind, hole)
            for value in reference.values(by_hole, kind_made, 2, 3):
                for other in holes_of(book):
                    told = cursors(by_hole, kind_made, other, value)
                    self.assertEqual(list(told), reference.cursors(by_hole, kind_made, other, value))

    def test_a_context_with_a_part_has_the_cursor_among_its_own(self):
        for book, kind, hole, _ in samples_with_holes():
            parts = reference.values(book, hole, 1, 3)
            for context in reference.values(book_by(book, hole), kind_by(book, kind, hole), 1, 3):
                for part in parts:
                    value = fill(book, kind, hole, context, part)
                    self.assertEqual(cursors(book, kind, hole, value).count((context, part)), 1)


class TestSteps(unittest.TestCase):
    def led(self, book, kind, hole, told, cursor, at):
        """Each step from the cursor leads where the list of all cursors tells."""
        ahead = told[at - 1] if at > 0 else None
        behind = told[at + 1] if at + 1 < len(told) else None
        self.assertEqual(next_one(book, kind, hole, *cursor), behind)
        self.assertEqual(former_one(book, kind, hole, *cursor), ahead)

    def test_each_clause_by_hand(self):
        row = name("Row")
        both = ("pair", row_of(5), ("pair", 6, row_of()))
        kind = pair(row, pair(THING, row))
        told = [
            # The whole value, and a name H within itself.
            (ROWS, row, row, (LEAF, row_of(5)), (("right", ("right", ("right", ("pair", 5, LEAF)))), LEAF)),
            # Another name, an either, and a pair gone into on the left: the second part has none.
            (ROWS, row, THING, (("right", ("left", ("pair", (), LEAF))), 5), None),
            # From the first part of a pair to the second one, over a part without a spot.
            (ROWS, kind, THING, (("left", ("pair", ("right", ("left", ("pair", (), LEAF))), both[2])), 5),
             (("right", ("pair", row_of(5), ("left", ("pair", (), LEAF)))), 6)),
            (ROWS, kind, row,
             (("left", ("pair", ("right", ("right", ("right", ("pair", 5, LEAF)))), both[2])), LEAF),
             (("right", ("pair", row_of(5), ("right", ("pair", 6, LEAF)))), LEAF))]
        for book, kind, hole, cursor, behind in told:
            self.assertEqual(next_one(book, kind, hole, *cursor), behind)
            if behind is not None:
                self.assertEqual(former_one(book, kind, hole, *behind), cursor)

    def test_there_and_back(self):
        for book, kind, hole, values in samples_with_holes():
            for value in values:
                told = cursors(book, kind, hole, value)
                for at, cursor in enumerate(told):
                    self.led(book, kind, hole, told, cursor, at)

    def test_in_books_by_holes(self):
        for book, kind, hole, _ in samples_with_holes():
            by_hole, kind_made = book_by(book, hole), kind_by(book, kind, hole)
            for value in reference.values(by_hole, kind_made, 2, 3):
                for other in holes_of(book):
                    told = cursors(by_hole, kind_made, other, value)
                    for at, cursor in enumerate(told):
                        self.led(by_hole, kind_made, other, told, cursor, at)

    def test_behind_a_part_put_in_the_place_of_another_one(self):
        for book, kind, hole, values in samples_with_holes(2, 3):
            parts = reference.values(book, hole, 1, 3)
            for value in values:
                for context, _ in cursors(book, kind, hole, value):
                    for part in parts:
                        told = cursors(book, kind, hole, fill(book, kind, hole, context, part))
                        self.led(book, kind, hole, told, (context, part), told.index((context, part)))

    def test_out_and_in(self):
        for book, kind, hole, values in samples_with_holes():
            for value in values:
                paths = spots(book, kind, hole, value)
                told = dict(zip(paths, cursors(book, kind, hole, value)))
                for path, cursor in told.items():
                    for call, word in [(out_of, "out"), (first_within, "in")]:
                        led = reference.path_led(book, kind, hole, value, path, word)
                        self.assertEqual(call(book, kind, hole, *cursor), told.get(led))

    def test_the_thing_leads_neither_out_nor_in(self):
        for context, part in cursors(ROWS, name("Row"), THING, row_of(5, 6, 7)):
            self.assertIsNone(out_of(ROWS, name("Row"), THING, context, part))
            self.assertIsNone(first_within(ROWS, name("Row"), THING, context, part))

    def test_out_of_the_nearest_part(self):
        row = name("Row")
        told = cursors(ROWS, row, row, row_of(5, 6, 7))
        self.assertEqual([out_of(ROWS, row, row, *one) for one in told], [None, *told[:-1]])
        self.assertEqual([first_within(ROWS, row, row, *one) for one in told], [*told[1:], None])
        small = node(LEAF, 1, LEAF)
        tree, two = name("Tree"), node(small, 2, small)
        told = cursors(TREES, tree, tree, two)
        self.assertEqual(
            [out_of(TREES, tree, tree, *one) for one in told],
            [None, told[0], told[1], told[1], told[0], told[4], told[4]])
        self.assertEqual(
            [first_within(TREES, tree, tree, *one) for one in told],
            [told[1], told[2], None, None, told[5], None, None])

    def test_great_values(self):
        row, value = name("Row"), row_of(*range(90))
        for hole, many in [(row, 91), (THING, 90)]:
            told = [cursors(ROWS, row, hole, value)[0]]
            while next_one(ROWS, row, hole, *told[-1]) is not None:
                told.append(next_one(ROWS, row, hole, *told[-1]))
            self.assertEqual(tuple(told), cursors(ROWS, row, hole, value))
            self.assertEqual(len(told), many)
            self.assertEqual([former_one(ROWS, row, hole, *one) for one in told], [None, *told[:-1]])
        tall = nested(("left", 5), lambda told: ("right", told), 199)
        (cursor,) = cursors(IDLES, name("Idle"), THING, tall)
        self.assertEqual((next_one(IDLES, name("Idle"), THING, *cursor), cursor[1]), (None, 5))


class TestContextsWithin(unittest.TestCase):
    def contexts(self, book, kind, hole, most_size=3):
        return reference.values(book_by(book, hole), kind_by(book, kind, hole), 1, most_size)

    def test_by_hand(self):
        row = name("Row")
        one = ("right", ("right", ("right", ("pair", 5, LEAF))))
        two = ("right", ("right", ("right", ("pair", 6, LEAF))))
        both = ("right", ("right", ("right", ("pair", 5, two))))
        self.assertEqual(context_within(ROWS, row, row, one, two), both)
        self.assertEqual(context_within(ROWS, pair(THING, row), row, ("right", ("pair", 7, one)), two),
                         ("right", ("pair", 7, both)))

    def test_filling_spots_and_sizes(self):
        for book, kind in SAMPLES:
            for hole in holes_of(book)[1:]:
                by_hole, kind_made = book_by(book, hole), kind_by(book, kind, hole)
                parts = reference.values(book, hole, 1, 2)[:3]
                for context in self.contexts(book, kind, hole):
                    for inner in self.contexts(book, hole, hole):
                        told = context_within(book, kind, hole, context, inner)
                        self.assertTrue(is_value(by_hole, kind_made, told))
                        self.assertEqual(
                            spot_of(book, kind, hole, told),
                            spot_of(book, kind, hole, context) + spot_of(book, hole, hole, inner))
                        self.assertEqual(
                            size(by_hole, kind_made, told),
                            size(by_hole, kind_made, context)
                            + size(by_hole, kind_by(book, hole, hole), inner))
                        for part in parts:
                            self.assertEqual(
                                fill(book, kind, hole, told, part),
                                fill(book, kind, hole, context, fill(book, hole, hole, inner, part)))

    def test_whichever_two_of_three_are_put_together_first(self):
        for book, kind in SAMPLES:
            for hole in holes_of(book)[1:]:
                inner = self.contexts(book, hole, hole, 2)[:4]
                for context in self.contexts(book, kind, hole, 2)[:4]:
                    for one, other in itertools.product(inner, repeat=2):
                        self.assertEqual(
                            context_within(book, kind, hole, context_within(book, kind, hole, context, one), other),
                            context_within(book, kind, hole, context, context_within(book, hole, hole, one, other)))

    def test_the_whole_changes_nothing_on_either_side(self):
        for book, kind in SAMPLES:
            for hole in holes_of(book)[1:]:
                for context in self.contexts(book, kind, hole):
                    self.assertEqual(context_within(book, kind, hole, context, LEAF), context)
                for inner in self.contexts(book, hole, hole):
                    self.assertEqual(context_within(book, hole, hole, LEAF, inner), inner)

    def test_names_without_values(self):
        deep = [nested(LEAF, lambda told: ("right", told), times) for times in range(6)]
        for kind, hole in itertools.product([name("A"), name("B")], repeat=2):
            for one, other in itertools.product(range(3), repeat=2):
                self.assertEqual(context_within(ROUND, kind, hole, deep[one], deep[other]), deep[one + other])
        self.assertEqual(
            context_within(ROUND, name("C"), name("A"), ("left", deep[2]), deep[1]), ("left", deep[3]))

    def test_the_thing_is_no_hole_here(self):
        for context in [LEAF, (), None, ("right", ("left", ("pair", (), LEAF)))]:
            with self.assertRaises(InvalidHole) as held:
                context_within(ROWS, name("Row"), THING, context, None)
            self.assertEqual(held.exception.given, THING)

    def test_what_is_no_inner_context(self):
        wrong = odd_things() + [(), row_of(5), ("right", ("right", ("right", ("pair", True, LEAF))))]
        for thing in wrong:
            with self.assertRaises(InvalidValue) as held:
                context_within(ROWS, name("Row"), name("Row"), LEAF, thing)
            self.assertIs(held.exception.given, thing)
        # The inner one is a context of the hole, not of the kind.
        kind = pair(THING, name("Row"))
        self.assertRaises(
            InvalidValue, context_within, ROWS, kind, name("Row"), ("right", ("pair", 5, LEAF)),
            ("right", ("pair", 5, LEAF)))


class TestDeeds(unittest.TestCase):
    def done(self, book, kind, hole, value, path, deeds):
        """The deeds tell what the whole value and paths tell."""
        context, part = behind_deeds(book, kind, hole, *mark(book, kind, hole, value, path), deeds)
        told = reference.behind_deeds(book, kind, hole, value, path, deeds)
        self.assertEqual(fill(book, kind, hole, context, part), told[0], deeds)
        self.assertEqual(spot_of(book, kind, hole, context), told[1], deeds)
        self.assertEqual((context, part), reference.mark(book, kind, hole, *told[:2]), deeds)
        return told

    def test_each_deed_by_itself(self):
        for book, kind, hole, values in samples_with_holes(2, 3):
            parts = reference.values(book, hole, 1, 3)[-2:]
            deeds = [(word,) for word in WORDS + ["undo"]] + [("put", part) for part in parts]
            for value in values:
                for path in spots(book, kind, hole, value):
                    for deed in deeds:
                        self.done(book, kind, hole, value, path, (deed,))
                        self.done(book, kind, hole, value, path, (deed, ("undo",)))

    def test_short_rows_of_deeds(self):
        tree = name("Tree")
        value = node(node(LEAF, 1, LEAF), 2, LEAF)
        for hole, parts in [(tree, [LEAF, node(LEAF, 7, LEAF)]), (THING, [7])]:
            deeds = [(word,) for word in WORDS + ["undo"]] + [("put", part) for part in parts]
            for row in itertools.product(deeds, repeat=3):
                for path in spots(TREES, tree, hole, value)[::2]:
                    self.done(TREES, tree, hole, value, path, row)

    def test_long_rows_of_deeds(self):
        many = 0
        for book, kind, hole, values in samples_with_holes(2, 4):
            parts = reference.values(book, hole, 2, 3)
            for value in values[-3:]:
                for path in spots(book, kind, hole, value)[:2]:
                    many += 1
                    deeds = tuple(some_deeds(many, parts))
                    self.assertEqual(len(deeds), 200)
                    led = self.done(book, kind, hole, value, path, deeds)[2]
                    self.assertEqual(len(led), 200)
        self.assertGreater(many, 50)

    def test_what_leads_nowhere_is_not_done(self):
        row = name("Row")
        start = cursors(ROWS, row, row, row_of(5, 6))[0]
        for word in ["former", "out"]:
            self.assertEqual(behind_deeds(ROWS, row, row, *start, ((word,),)), start)
            deeds = (("next",), ("first",), (word,), ("undo",))
            # What the undo takes back is first, not what led nowhere.
            self.assertEqual(behind_deeds(ROWS, row, row, *start, deeds), next_one(ROWS, row, row, *start))
        end = cursors(ROWS, row, row, row_of(5, 6))[-1]
        for word in ["next", "in"]:
            self.assertEqual(behind_deeds(ROWS, row, row, *end, ((word,),)), end)
            self.assertEqual(
                behind_deeds(ROWS, row, row, *end, (("former",), ("next",), (word,), ("undo",))),
                former_one(ROWS, row, row, *end))

    def test_first_last_and_a_put_of_the_same_are_done(self):
        row = name("Row")
        start, end = cursors(ROWS, row, THING, row_of(5, 6))
        for cursor, there in [(start, "first"), (end, "last")]:
            other = end if cursor == start else start
            step = ("next",) if cursor == end else ("former",)
            for deed in [(there,), ("put", cursor[1])]:
                deeds = (step, deed, ("undo",))
                self.assertEqual(behind_deeds(ROWS, row, THING, *other, deeds), cursor)
                self.assertEqual(behind_deeds(ROWS, row, THING, *other, deeds + (("undo",),)), other)

    def test_undo_of_each_deed(self):
        row = name("Row")
        start = cursors(ROWS, row, row, row_of(5, 6, 7))[1]
        for deed in [(word,) for word in WORDS] + [("put", row_of(8))]:
            self.assertNotEqual(behind_deeds(ROWS, row, row, *start, (deed,)), start)
            self.assertEqual(behind_deeds(ROWS, row, row, *start, (deed, ("undo",))), start)
            self.assertEqual(behind_deeds(ROWS, row, row, *start, (deed, deed) + (("undo",),) * 3), start)

    def test_more_undos_than_deeds(self):
        row = name("Row")
        start = cursors(ROWS, row, THING, row_of(5, 6))[0]
        deeds = (("put", 7), ("next",), ("put", 8)) + (("undo",),) * 5
        self.assertEqual(behind_deeds(ROWS, row, THING, *start, deeds), start)
        self.assertEqual(
            behind_deeds(ROWS, row, THING, *start, deeds + (("put", 9),)), (start[0], 9))
        self.assertEqual(behind_deeds(ROWS, row, THING, *start, (("undo",),) * 200), start)

    def test_put_behind_put_and_steps_behind_a_put(self):
        row = name("Row")
        start = cursors(ROWS, row, row, row_of(5))[0]
        put = (("put", row_of(6)), ("put", row_of(7, 8)))
        self.assertEqual(behind_deeds(ROWS, row, row, *start, put), (LEAF, row_of(7, 8)))
        self.assertEqual(behind_deeds(ROWS, row, row, *start, put + (("undo",),)), (LEAF, row_of(6)))
        self.assertEqual(behind_deeds(ROWS, row, row, *start, put + (("next",), ("next",)))[1], LEAF)
        self.assertEqual(behind_deeds(ROWS, row, row, *start, put + (("last",),))[1], LEAF)
        self.assertEqual(behind_deeds(ROWS, row, row, *start, put + (("in",),))[1], row_of(8))

    def test_no_deeds(self):
        start = cursors(ROWS, name("Row"), THING, row_of(5, 6))[1]
        self.assertEqual(behind_deeds(ROWS, name("Row"), THING, *start, ()), start)


def some_deeds(seed, parts):
    """A row of 200 deeds, each word and part about as often, told by the seed."""
    words = WORDS + ["next", "undo", "undo", "put", "put"]
    for _ in range(200):
        seed = (seed * 1103515245 + 12345) % 2 ** 31
        word = words[seed // 2 ** 8 % len(words)]
        yield ("put", parts[seed // 2 ** 16 % len(parts)]) if word == "put" else (word,)


class TestWrongDeeds(unittest.TestCase):
    def refused(self, hole, deeds, index):
        cursor = cursors(ROWS, name("Row"), hole, row_of(5, 6))[0]
        with self.assertRaises(InvalidDeeds) as held:
            behind_deeds(ROWS, name("Row"), hole, *cursor, deeds)
        self.assertEqual(held.exception.index, index)
        self.assertIs(type(held.exception.index), type(index))

    def test_no_tuple_of_up_to_two_hundred(self):
        for thing in odd_things() + [[("next",)], "next", {}, OddTuple([("next",)]), 5, True]:
            if type(thing) is not tuple:
                self.refused(THING, thing, None)
        for deed in [("next",), ("undo",), ("put", 5), None]:
            self.refused(THING, (deed,) * 201, None)
        start = cursors(ROWS, name("Row"), THING, row_of(5, 6))[0]
        self.assertEqual(
            behind_deeds(ROWS, name("Row"), THING, *start, (("next",), ("former",)) * 100), start)

    def test_the_first_wrong_deed(self):
        row = row_of(7)
        wrong = [one for one in odd_things()] + [
            ("next", 1), ("Next",), "next", ["next"], ("nexts",), ("undo", ()), ("put",), ("put", 5, 6), ("put", True),
            ("put", "5"), ("put", ()), ("put", row), ("put", Odd()), (Odd(),), ("put", [5]), (5,), (None,), ((),),
            (("next",),), ("first", None), ("",), ()]
        for thing in wrong:
            self.refused(THING, (thing,), 0)
            self.refused(THING, (("next",), ("put", 5), thing, None, thing), 2)
            self.refused(THING, (("undo",),) * 199 + (thing,), 199)
        for thing in [("put", 5), ("put", ("right", ("pair", True, LEAF))), ("put", LEAF, LEAF)]:
            self.refused(name("Row"), (("in",), thing), 1)

    def test_nothing_is_changed(self):
        deeds = [("next",)]
        self.refused(THING, deeds, None)
        self.assertEqual(deeds, [("next",)])


class TestCalls(unittest.TestCase):
    def test_by_the_told_names(self):
        row = name("Row")
        start, end = cursors(value=row_of(5), hole=row, kind=row, book=ROWS)
        self.assertEqual(next_one(part=start[1], context=start[0], hole=row, kind=row, book=ROWS), end)
        self.assertEqual(former_one(part=end[1], context=end[0], hole=row, kind=row, book=ROWS), start)
        self.assertEqual(out_of(part=end[1], context=end[0], hole=row, kind=row, book=ROWS), start)
        self.assertEqual(first_within(part=start[1], context=start[0], hole=row, kind=row, book=ROWS), end)
        self.assertEqual(context_within(inner=end[0], context=start[0], hole=row, kind=row, book=ROWS), end[0])
        self.assertEqual(
            behind_deeds(deeds=(("last",),), part=start[1], context=start[0], hole=row, kind=row, book=ROWS), end)

    def test_they_are_defined_in_their_file(self):
        for function in [cursors, next_one, former_one, out_of, first_within, context_within, behind_deeds]:
            self.assertEqual(function.__module__, module.__name__)

    def test_names_by_holes_lead_on(self):
        by_thing, kind = book_by(ROWS, THING), name("Row'")
        context = ("right", ("left", ("pair", (), row_of(6, 7))))
        told = cursors(by_thing, kind, THING, context)
        self.assertEqual([part for _, part in told], [6, 7])
        self.assertEqual(next_one(by_thing, kind, THING, *told[0]), told[1])
        told = cursors(ROWS_BY_ALL, kind, name("Row"), context)
        self.assertEqual([part for _, part in told], [row_of(6, 7), row_of(7), LEAF])
        self.assertEqual(out_of(ROWS_BY_ALL, kind, name("Row"), *told[2]), told[1])

    def test_names_for_names(self):
        value = ("left", ("pair", ("left", ("pair", ("right", ()), 6)), 5))
        told = cursors(BOXES, name("Twin"), name("Box"), value)
        self.assertEqual([spot_of(BOXES, name("Twin"), name("Box"), one) for one, _ in told], [
            (), (1, 1), (1, 1, 1, 1)])
        self.assertEqual(next_one(BOXES, name("Twin"), name("Box"), *told[0]), told[1])
        self.assertEqual(out_of(BOXES, name("Twin"), name("Box"), *told[2]), told[1])
        self.assertEqual(former_one(BOXES, name("Twin"), THING, *cursors(
            BOXES, name("Twin"), THING, value)[1])[1], 6)

    def test_two_names_in_turn(self):
        roses = ("right", ("pair", ("pair", 5, LEAF), ("right", ("pair", ("pair", 6, LEAF), LEAF))))
        told = cursors(ROSES, name("Roses"), name("Stem"), roses)
        self.assertEqual([part for _, part in told], [("pair", 5, LEAF), ("pair", 6, LEAF)])
        self.assertEqual(next_one(ROSES, name("Roses"), name("Stem"), *told[0]), told[1])
        self.assertIsNone(out_of(ROSES, name("Roses"), name("Stem"), *told[1]))
        self.assertRaises(InvalidValue, next_one, ROSES, name("Roses"), name("Stem"), *told[0][:1], 5)


if __name__ == "__main__":
    unittest.main()
