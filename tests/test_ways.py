import unittest

from holekinds.ways import context_along, path_along, value_along, way_of, way_to
from tests import reference
from tests.samples import SAMPLES, holes_of


class TestWays(unittest.TestCase):
    def test_a_value_and_a_context_tell_the_same_way(self):
        for book, kind in SAMPLES:
            table = dict(book)
            for hole in holes_of(book):
                for value in reference.values(book, kind, 2, 3):
                    for path in reference.spots(book, kind, hole, value):
                        way, part = way_to(table, kind, hole, value, path)
                        context = context_along(way, hole)
                        self.assertEqual((context, part), reference.mark(book, kind, hole, value, path))
                        self.assertEqual(way_of(table, kind, hole, context), way)
                        self.assertEqual(value_along(way, part), value)
                        self.assertEqual(path_along(way), path)


if __name__ == "__main__":
    unittest.main()
