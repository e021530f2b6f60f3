import unittest

from holekinds.books import is_shape, is_value
from tests.samples import (
    NONE, ROW, ROWS, ROWS_BY_ALL, THING, UNIT, Odd, either, name, nested, odd_things, pair)

TREE = either(UNIT, pair(name("Tree"), pair(THING, name("Tree"))))
TREES = (("Tree", TREE),)
LEAF = ("left", ())

IDLE = (
    ("A", name("B")), ("B", name("A")), ("C", name("A")), ("Own", name("Own")),
    ("Some", either(name("Own"), UNIT)), ("Two", pair(UNIT, name("A"))))


def chain_of_names(many, kind):
    """A BOOK in which each name stands for the next one, the last one for the KIND."""
    names = ["N" + str(number).zfill(2) for number in range(many)]
    return tuple(zip(names, [name(one) for one in names[1:]] + [kind]))


def row_of(*things):
    """A value of Row with these things."""
    told = LEAF
    for thing in reversed(things):
        told = ("right", ("pair", thing, told))
    return told


def node(left, thing, right):
    return ("right", ("pair", left, ("pair", thing, right)))


class TestValues(unittest.TestCase):
    def values(self, book, kind, told):
        for value in told:
            self.assertIs(is_value(book, kind, value), True, value)

    def no_values(self, book, kind, told):
        for value in told:
            self.assertIs(is_value(book, kind, value), False)

    def test_of_the_thing(self):
        self.values((), THING, [0, 1, -1, 7, 10 ** 399, -10 ** 399])
        self.no_values((), THING, [True, False, None, "1", b"1", (), (1,), [1], ("thing",), Odd(), 3j])

    def test_of_none(self):
        self.no_values((), NONE, [(), 0, None, False, ("none",), "none", ("left", ())])

    def test_of_unit(self):
        self.values((), UNIT, [()])
        self.no_values((), UNIT, [0, None, False, [], "", b"", {}, ((),), ("unit",), 1, Odd(), frozenset()])

    def test_of_a_pair(self):
        self.values((), pair(THING, UNIT), [("pair", 5, ()), ("pair", -1, ())])
        self.no_values((), pair(THING, UNIT), [
            ("pair", (), 5), ("pair", 5, 5), ("pair", (), ()), ("pair", 5), ("pair", 5, (), ()), ("pair",),
            (5, ()), ["pair", 5, ()], ("Pair", 5, ()), ("left", 5), ("either", 5, ()), ("pair", True, ()),
            ("pair", 5, []), (None, 5, ()), (Odd(), 5, ()), ("pair", Odd(), ()), ("pair", 5, Odd()), (), 5])

    def test_of_an_either(self):
        self.values((), either(THING, UNIT), [("left", 5), ("right", ())])
        self.no_values((), either(THING, UNIT), [
            ("left", ()), ("right", 5), ("left",), ("right",), ("left", 5, 5), ("right", (), ()),
            ["left", 5], ("either", 5), ("Left", 5), (1, 5), (None, 5), (Odd(), 5), ("left", Odd()),
            ("left", True), ("right", []), (), 5, ("pair", 5, ()), ("name", 5), (5,), "left"])
        self.values((), either(NONE, UNIT), [("right", ())])
        self.no_values((), either(NONE, UNIT), [("left", ()), ("left", 0), ("left", None)])
        self.values((), either(UNIT, UNIT), [("left", ()), ("right", ())])

    def test_deeper_kinds(self):
        kind = pair(either(pair(THING, THING), UNIT), either(NONE, THING))
        self.values((), kind, [
            ("pair", ("left", ("pair", 1, 2)), ("right", 3)), ("pair", ("right", ()), ("right", 3))])
        self.no_values((), kind, [
            ("pair", ("left", ("pair", 1, True)), ("right", 3)), ("pair", ("right", ()), ("left", 3)),
            ("pair", ("left", ("pair", 1)), ("right", 3)), ("pair", ("right", 1), ("right", 3))])

    def test_names_are_unfolded(self):
        for kind in [ROW, name("Row")]:
            self.values(ROWS, kind, [row_of(), row_of(5), row_of(5, 7), row_of(*range(90))])
            self.no_values(ROWS, kind, [
                (), 5, ("left", 5), ("right", ()), ("right", ("pair", 5, ())), row_of(True),
                row_of(1, 2, None), row_of(1, ()), ("Row", row_of()), ("name", row_of()),
                ("right", ("pair", 5, ("right", ("pair", 5, 5))))])
        self.values(TREES, name("Tree"), [LEAF, node(LEAF, 1, LEAF), node(node(LEAF, 1, LEAF), 2, LEAF)])
        self.no_values(TREES, name("Tree"), [node(LEAF, LEAF, LEAF), node(LEAF, 1, node(LEAF, True, LEAF))])

    def test_of_kinds_by_holes(self):
        here = ("right", ("left", ("pair", (), row_of(7))))
        later = ("right", ("right", ("pair", 5, here)))
        self.values(ROWS_BY_ALL, name("Row'"), [here, later])
        self.no_values(ROWS_BY_ALL, name("Row'"), [("left", ()), row_of(5), ("right", here)])
        self.values(ROWS_BY_ALL, name("Row'Row"), [("right", ("right", ("pair", 5, ("left", ()))))])

    def test_names_that_stand_for_one_another(self):
        for book, kind in [(IDLE, name("A")), (IDLE, name("B")), (IDLE, name("C")), (IDLE, name("Own")),
                           (chain_of_names(80, name("N00")), name("N00")),
                           (chain_of_names(80, name("N79")), name("N00"))]:
            for value in odd_things() + [(), 5, LEAF]:
                self.assertIs(is_value(book, kind, value), False)
                self.assertIs(is_shape(book, kind, value), False)
        self.values(IDLE, name("Some"), [("right", ())])
        self.no_values(IDLE, name("Some"), [("left", ()), ("left", ("left", ()))])
        self.no_values(IDLE, name("Two"), [("pair", (), ()), ("pair", (), 5)])

    def test_long_rows_of_names(self):
        for many in [1, 2, 79, 80]:
            book = chain_of_names(many, THING)
            self.assertIs(is_value(book, name("N00"), 5), True)
            self.assertIs(is_value(book, name("N00"), ()), False)
            self.assertIs(is_shape(book, name("N00"), ()), True)
            self.assertIs(is_value(book, pair(name("N00"), name("N00")), ("pair", 5, 6)), True)

    def test_a_name_without_an_end_has_no_value(self):
        book = (("Loop", pair(UNIT, name("Loop"))),)
        tall = nested((), lambda told: ("pair", (), told), 250)
        self.no_values(book, name("Loop"), [(), ("pair", (), ()), tall])

    def test_tall_values(self):
        book = (("Idle", either(UNIT, name("Idle"))),)
        for times in [0, 1, 100, 199, 290]:
            told = nested(LEAF, lambda told: ("right", told), times)
            self.assertIs(is_value(book, name("Idle"), told), True)
            self.assertIs(is_shape(book, name("Idle"), told), True)
            self.assertIs(is_value(book, name("Idle"), nested(0, lambda told: ("right", told), times)), False)
            for odd in odd_things()[:30]:
                wrong = nested(odd, lambda told: ("right", told), min(times, 200))
                self.assertIs(is_value(book, name("Idle"), wrong), False)
        rows = row_of(*range(140))
        self.values(ROWS, ROW, [rows])
        self.assertIs(is_shape(ROWS, ROW, rows), False)
        self.assertIs(is_shape(ROWS, ROW, row_of(*[() for one in range(140)])), True)

    def test_whatever_it_is(self):
        for book, kind in [(ROWS, ROW), (ROWS, name("Row")), (ROWS, pair(THING, ROW)), ((), NONE),
                           (ROWS, either(THING, UNIT)), (ROWS, pair(UNIT, UNIT))]:
            for thing in odd_things():
                for value in [thing, ("left", thing), ("right", thing), ("right", ("pair", thing, LEAF)),
                              ("right", ("pair", 5, thing)), ("pair", thing, thing), (thing, ()),
                              (thing, (), ()), (thing,)]:
                    told = is_value(book, kind, value)
                    number = type(thing) is int
                    self.assertIs(told, number and value in (
                        [("right", ("pair", thing, LEAF))] if kind in (ROW, name("Row"))
                        else [("left", thing)] if kind == either(THING, UNIT) else []))
        for thing in odd_things():
            self.assertIs(is_value((), THING, thing), type(thing) is int)
            self.assertIs(is_value((), UNIT, thing), False)

    def test_by_their_told_names(self):
        self.assertIs(is_value(value=5, kind=THING, book=()), True)


class TestShapes(unittest.TestCase):
    def shapes(self, book, kind, told, no):
        for shape in told:
            self.assertIs(is_shape(book, kind, shape), True, shape)
        for shape in no:
            self.assertIs(is_shape(book, kind, shape), False)

    def test_each_sort(self):
        self.shapes((), THING, [()], [0, 5, None, [], "", ((),), False, Odd(), ("thing",)])
        self.shapes((), NONE, [], [(), 0, None])
        self.shapes((), UNIT, [()], [0, None, [], "", ((),), False, Odd()])
        self.shapes((), pair(THING, UNIT), [("pair", (), ())], [
            ("pair", 5, ()), ("pair", (), 5), ("pair", ()), ("pair", (), (), ()), ["pair", (), ()], (),
            ("pair", True, ()), ("pair", (), []), ("pair", [], ()), (Odd(), (), ())])
        self.shapes((), either(THING, NONE), [("left", ())], [
            ("left", 5), ("right", ()), ("left",), ("left", (), ()), ["left", ()], (), ("left", Odd())])

    def test_names_are_unfolded(self):
        self.shapes(ROWS, name("Row"), [row_of(), row_of(()), row_of((), ())], [
            row_of(5), row_of((), 5), row_of(5, ()), (), 5, row_of(None), row_of(True)])
        self.shapes(ROWS_BY_ALL, name("Row'"), [("right", ("left", ("pair", (), row_of(()))))], [
            ("right", ("left", ("pair", (), row_of(5))))])

    def test_whatever_it_is(self):
        for thing in odd_things():
            self.assertIs(is_shape(ROWS, ROW, thing), False)
            self.assertIs(is_shape(ROWS, ROW, ("right", ("pair", thing, LEAF))), False)
            self.assertIs(is_shape(ROWS, THING, thing), False)

    def test_by_their_told_names(self):
        self.assertIs(is_shape(value=(), kind=THING, book=()), True)


if __name__ == "__main__":
    unittest.main()
