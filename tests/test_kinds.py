import unittest

from holekinds import kinds
from holekinds.errors import InvalidKind
from holekinds.kinds import depth_of_kind, is_kind, is_name, names_in, parts_of_kind
from tests.samples import (
    NONE, ROW, ROW_BY_ROW_BY_ROW, ROW_BY_THING, THING, UNIT, deep_kind, either, name, nested,
    odd_things, pair, wide_kind)

KINDS = [
    THING, NONE, UNIT, name("Row"), name("R"), name("Row''Row"), pair(THING, NONE),
    either(UNIT, name("A")), pair(either(UNIT, THING), pair(name("A"), name("B"))), ROW,
    ROW_BY_THING, ROW_BY_ROW_BY_ROW]

# Each is wrong in one way; each is also tried deep within KINDs.
NO_KINDS = [
    (), ("thing", ()), ("thing", UNIT), ("none", None), ("unit", "unit"), ("name",),
    ("name", "row"), ("name", ""), ("name", "Row", "Row"), ("name", None), ("name", 3),
    ("name", True), ("name", ("name", "Row")), ("name", ["Row"]), ("name", b"Row"), ("pair",),
    ("pair", UNIT), ("pair", UNIT, UNIT, UNIT), ("pair", UNIT, None), ("pair", (), UNIT),
    ("pair", True, UNIT), ("pair", UNIT, 1), ("pair", [UNIT], UNIT), ["pair", UNIT, UNIT],
    ("pair", ["unit"], UNIT), ("pair", (UNIT, UNIT)), ("either",), ("either", UNIT),
    ("either", UNIT, UNIT, UNIT), ("either", UNIT, False), ("either", 0, UNIT),
    ["either", UNIT, UNIT], ("either", UNIT, ["thing"]), ("both", UNIT, UNIT), ("Thing",),
    ("things",), ("left", UNIT), (b"unit",), (True,), (1,), (None,), (("unit",),),
    ("unit", "thing"), ("pair", "thing", "thing"), "unit", 5, True, False, None]


class TestNames(unittest.TestCase):
    def test_names_as_written(self):
        for text in ["A", "Z", "Row", "Aa", "A0", "Z9z", "B2b2b2b2", "Abcdefgh", "A1234567"]:
            self.assertTrue(is_name(text), text)

    def test_every_sign_that_may_stand_in_a_name_as_written(self):
        signs = [chr(code) for code in range(0x250)]
        capitals = [sign for sign in signs if is_name(sign)]
        self.assertEqual("".join(capitals), "ABCDEFGHIJKLMNOPQRSTUVWXYZ")
        behind = [sign for sign in signs if is_name("R" + sign + "w")]
        self.assertEqual("".join(behind), "0123456789abcdefghijklmnopqrstuvwxyz")
        last = [sign for sign in signs if is_name("Ro" + sign)]
        self.assertEqual("".join(last), "'0123456789abcdefghijklmnopqrstuvwxyz")
        behind_a_hole = [sign for sign in signs if is_name("Row'" + sign)]
        self.assertEqual("".join(behind_a_hole), "'ABCDEFGHIJKLMNOPQRSTUVWXYZ")

    def test_eight_signs_of_a_name_as_written_and_nine(self):
        for beginning in ["", "Row'", "Row''"]:
            for ending in ["", "'", "'Row"]:
                self.assertTrue(is_name(beginning + "Abcdefg8" + ending))
                self.assertFalse(is_name(beginning + "Abcdefgh9" + ending))

    def test_names_by_the_thing_and_by_a_name_several_times_over(self):
        for text in ["Row'", "Row''", "Row'''", "Row'Row", "Row''Row", "Row'Row'", "Row'Row'Tree",
                     "Row'''Row''A", "A'B'C'D'E", "A'A1'A12'"]:
            self.assertTrue(is_name(text), text)

    def test_sixty_signs_and_sixty_one(self):
        for text in ["A" + "'" * 59, "A'" * 30, "Abcdefgh'Abcdefgh'Abcdefgh'Abcdefgh'Abcdefgh'Abcdefgh'Abcdef"]:
            self.assertEqual(len(text), 60)
            self.assertTrue(is_name(text), text)
        for text in ["A" + "'" * 60, "A'" * 30 + "A", "Abcdefgh'Abcdefgh'Abcdefgh'Abcdefgh'Abcdefgh'Abcdefgh'Abcdefg"]:
            self.assertEqual(len(text), 61)
            self.assertFalse(is_name(text), text)

    def test_near_ones_that_are_no_names(self):
        for text in ["", "'", "''", "'Row", "row", "rOW", "ROW", "RoW", "1Row", "Row_", "_Row", "Row-1",
                     "Row ", " Row", "Row\n", "\nRow", "Row.", "R w", "Row'row", "Row'1", "Row' Row",
                     "Row'RowRow", "Row'row'Row", "Row\u2019", "\u00c9a", "Ro\u00e9", "R\u00b2",
                     "R\u0663", "R\uff11", "\uff32ow", "\u0410a", "Row\u0000", "Row`", "Row\"", "\ud800"]:
            self.assertFalse(is_name(text), text)

    def test_things_that_are_no_texts(self):
        for thing in odd_things() + [["Row"], ("Row",), {"Row"}, b"Row", ("name", "Row"), list("Row")]:
            self.assertIs(is_name(thing), False)

    def test_by_its_told_name(self):
        self.assertIs(is_name(value="Row"), True)


class TestKinds(unittest.TestCase):
    def test_each_sort(self):
        for kind in KINDS:
            self.assertIs(is_kind(kind), True, kind)

    def test_what_is_near_a_kind(self):
        for thing in NO_KINDS:
            self.assertIs(is_kind(thing), False, thing)

    def test_what_is_near_a_kind_deep_within_one(self):
        for thing in NO_KINDS:
            for step in [lambda one: pair(one, THING), lambda one: pair(THING, one),
                         lambda one: either(one, UNIT), lambda one: either(NONE, one)]:
                self.assertIs(is_kind(step(thing)), False, thing)
                self.assertIs(is_kind(nested(thing, step, 28)), False, thing)

    def test_whatever_it_is(self):
        for thing in odd_things():
            self.assertIs(is_kind(thing), False)
            self.assertIs(is_kind(pair(THING, thing)), False)
            self.assertIs(is_kind(either(thing, THING)), False)

    def test_thirty_and_thirty_one_deep(self):
        for leaf in [THING, name("Row")]:
            self.assertTrue(is_kind(deep_kind(30, leaf)))
            self.assertFalse(is_kind(deep_kind(31, leaf)))
        left = nested(UNIT, lambda kind: pair(kind, UNIT), 29)
        self.assertTrue(is_kind(left))
        self.assertFalse(is_kind(pair(left, UNIT)))
        self.assertFalse(is_kind(either(UNIT, left)))

    def test_two_thousand_parts_and_more(self):
        # Each KIND has an odd number of parts, so that none has just 2,000.
        self.assertTrue(is_kind(wide_kind(1999)))
        self.assertFalse(is_kind(wide_kind(2001)))
        self.assertTrue(is_kind(either(wide_kind(999), wide_kind(999))))
        self.assertFalse(is_kind(either(wide_kind(999), wide_kind(1001))))

    def test_parts_are_counted_as_often_as_they_stand_there(self):
        self.assertFalse(is_kind(nested(UNIT, lambda kind: pair(kind, kind), 10)))
        self.assertTrue(is_kind(nested(UNIT, lambda kind: pair(kind, kind), 9)))
        self.assertFalse(is_kind(nested(UNIT, lambda kind: pair(kind, kind), 29)))

    def test_by_its_told_name(self):
        self.assertIs(is_kind(value=THING), True)


class TestMeasures(unittest.TestCase):
    def test_depth(self):
        told = [
            (THING, 1), (NONE, 1), (UNIT, 1), (name("Row''Row"), 1), (pair(THING, THING), 2),
            (either(UNIT, pair(THING, THING)), 3), (either(pair(THING, THING), UNIT), 3),
            (ROW, 3), (ROW_BY_THING, 4), (ROW_BY_ROW_BY_ROW, 6), (deep_kind(30), 30),
            (wide_kind(1999), 11)]
        for kind, depth in told:
            self.assertEqual(depth_of_kind(kind), depth)

    def test_parts(self):
        told = [
            (THING, 1), (NONE, 1), (UNIT, 1), (name("Row"), 1), (pair(THING, THING), 3), (ROW, 5),
            (ROW_BY_THING, 9), (deep_kind(30), 59), (wide_kind(1999), 1999),
            (nested(UNIT, lambda kind: pair(kind, kind), 9), 1023)]
        for kind, parts in told:
            self.assertEqual(parts_of_kind(kind), parts)

    def test_names(self):
        told = [
            (THING, ()), (NONE, ()), (UNIT, ()), (name("Row"), ("Row",)),
            (pair(name("B"), name("A")), ("A", "B")), (pair(name("A"), name("A")), ("A",)),
            (ROW_BY_THING, ("Row", "Row'")), (ROW_BY_ROW_BY_ROW, ("Row", "Row'Row", "Row'Row'Row")),
            (pair(either(name("Row1"), name("Row")), pair(name("Row'"), name("R"))),
             ("R", "Row", "Row'", "Row1"))]
        for kind, names in told:
            self.assertEqual(names_in(kind), names)
            self.assertIs(type(names_in(kind)), tuple)

    def test_no_kind_is_refused(self):
        for thing in NO_KINDS + odd_things() + [deep_kind(31), wide_kind(2001), pair(THING, ["unit"])]:
            for function in [depth_of_kind, parts_of_kind, names_in]:
                with self.assertRaises(InvalidKind) as held:
                    function(thing)
                self.assertIs(held.exception.given, thing)

    def test_by_their_told_names(self):
        self.assertEqual(depth_of_kind(kind=ROW), 3)
        self.assertEqual(parts_of_kind(kind=ROW), 5)
        self.assertEqual(names_in(kind=ROW), ("Row",))

    def test_they_are_defined_in_their_file(self):
        for function in [is_name, is_kind, depth_of_kind, parts_of_kind, names_in]:
            self.assertEqual(function.__module__, kinds.__name__)


if __name__ == "__main__":
    unittest.main()
