import unittest

from holekinds.making import kind_made, made_of, name_made
from tests.samples import (
    NONE, ROW, ROW_BY_ROW, ROW_BY_ROW_BY_ROW, ROW_BY_ROW_BY_THING, ROW_BY_THING,
    ROW_BY_THING_BY_ROW, ROW_BY_THING_BY_THING, THING, UNIT, either, name, pair)


class TestMaking(unittest.TestCase):
    def test_names_by_holes(self):
        told = [
            ("Row", THING, "Row'"), ("Row", name("Row"), "Row'Row"), ("Row'", name("Row"), "Row''Row"),
            ("Row'Row", THING, "Row'Row'"), ("Row'", THING, "Row''"), ("A'B", name("C1"), "A'B'C1")]
        for stem, hole, by_hole in told:
            self.assertEqual(name_made(stem, hole), by_hole)
            self.assertEqual(made_of(by_hole), (stem, hole))

    def test_leaves(self):
        for hole in [THING, name("Row")]:
            self.assertEqual(kind_made(UNIT, hole), NONE)
            self.assertEqual(kind_made(NONE, hole), NONE)
        self.assertEqual(kind_made(THING, THING), UNIT)
        self.assertEqual(kind_made(THING, name("Row")), NONE)
        self.assertEqual(kind_made(name("Row"), THING), name("Row'"))
        self.assertEqual(kind_made(name("Tree"), name("Row")), name("Tree'Row"))
        self.assertEqual(kind_made(name("Row'"), name("Row")), name("Row''Row"))
        self.assertEqual(kind_made(name("Row"), name("Row")), either(UNIT, name("Row'Row")))

    def test_pairs_and_eithers(self):
        self.assertEqual(kind_made(pair(THING, UNIT), THING), either(pair(UNIT, UNIT), pair(THING, NONE)))
        self.assertEqual(kind_made(either(THING, UNIT), THING), either(UNIT, NONE))

    def test_rows(self):
        told = [
            (ROW, THING, ROW_BY_THING), (ROW, name("Row"), ROW_BY_ROW),
            (ROW_BY_THING, THING, ROW_BY_THING_BY_THING), (ROW_BY_THING, name("Row"), ROW_BY_THING_BY_ROW),
            (ROW_BY_ROW, THING, ROW_BY_ROW_BY_THING), (ROW_BY_ROW, name("Row"), ROW_BY_ROW_BY_ROW)]
        for kind, hole, by_hole in told:
            self.assertEqual(kind_made(kind, hole), by_hole)


if __name__ == "__main__":
    unittest.main()
