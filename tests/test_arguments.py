"""The errors of each function: each argument wrong by itself, and several wrong at once."""

import inspect
import itertools
import unittest

from holekinds import errors
from holekinds.counts import counts, is_fair, number_of, shape, shape_of, shapes
from holekinds.cursors import (
    behind_deeds, context_within, cursors, first_within, former_one, next_one, out_of)
from holekinds.folds import fold, fold_around, fold_of_part
from holekinds.holes import book_by, fill, kind_by, mark, size, spot_of, spots, things
from holekinds.loops import end_of, loop, rounds_of, state
from holekinds.text import (
    read_book, read_kind, read_shape, read_value, show_book, show_kind, show_shape, show_value)
from holekinds.twoholes import fill_two, mark_two, spots_of_two, turned_about
from tests.samples import (
    NONE, ROWS, THING, UNIT, Odd, OddText, OddTuple, deep_kind, either, name, odd_things, pair, wide_kind)

LEAF = ("left", ())
ROW = name("Row")
VALUE = ("right", ("pair", 5, LEAF))
SHAPE = ("right", ("pair", (), LEAF))
CONTEXT = ("right", ("left", ("pair", (), LEAF)))
CONTEXT_BY_ROW = ("right", ("right", ("right", ("pair", 5, LEAF))))
TWO = ("right", ("left", ("right", ("pair", (), LEAF))))
RULE = ("answer", 2, 1)
ALGEBRA = (("Row", ("case", ("number", 0), ("plus", ("take", 1, 0), ("answer", 1, 0)))),)

# What is passed where it is right, in each function's order.
RIGHT = {
    "book": ROWS, "kind": ROW, "hole": THING, "value": VALUE, "path": (1, 1), "context": CONTEXT, "part": 5,
    "shape": SHAPE, "things": 1, "size": 2, "number": 0, "deeds": (("next",), ("put", 5)), "inner": CONTEXT_BY_ROW,
    "other": ROW, "second": (1, 2), "two": TWO, "second_part": LEAF, "algebra": ALGEBRA, "rule": RULE,
    "rounds": 3, "state": (("answer", 5), ())}
RIGHT_FOR = {(context_within, "hole"): ROW, (context_within, "context"): LEAF}
FUNCTIONS = [
    kind_by, book_by, spots, mark, fill, spot_of, size, things, counts, is_fair, shape_of, number_of, shapes,
    shape, show_book, show_value, show_shape, show_kind, read_value, read_shape, read_kind, read_book, cursors,
    next_one, former_one, out_of, first_within, context_within, behind_deeds, mark_two, fill_two, spots_of_two,
    turned_about, fold, fold_of_part, fold_around, state, loop, rounds_of, end_of]
TEXTS = {read_kind: "thing", read_book: "A = thing;", read_value: "left(())", read_shape: "left(())"}

BOOKS = [
    (None, None), (list(ROWS), None), (dict(ROWS), None), (True, None), (Odd(), None), ((None,) * 81, None),
    (OddTuple(ROWS), None), ((None,), 0), (ROWS + (None,), 1), (ROWS * 2, 1), ((("Row", ["unit"]),), 0),
    ((("Row", name("Tree")),), 0), (ROWS + (("Row'", UNIT),), 1), ((("Row'", NONE),), 0),
    ((("B", UNIT), ("A", UNIT)), 1), (((OddText("A"), UNIT),), 0)]
NO_KINDS = odd_things() + [deep_kind(31), wide_kind(2001), ["name", "Row"], ("name", "row")]
UNKNOWN = [name("Tree"), name("Row'"), pair(ROW, name("Row'Row"))]
HOLES = odd_things() + [
    name("Tree"), name("Row'"), UNIT, NONE, pair(THING, THING), either(ROW, ROW), ["thing"], "Row", "thing"]
VALUES = [one for one in odd_things()] + [
    (), ("right", ("pair", True, LEAF)), ("right", ("pair", (), ("left", 5))), ("right", ["pair", 5, LEAF]),
    ("left", 5), ("right", ()), ["left", ()], ("right", ("pair", 5, LEAF, LEAF))]
WRONG = {
    "book": ("InvalidBook", BOOKS),
    "kind": ("InvalidKind", NO_KINDS + UNKNOWN),
    "hole": ("InvalidHole", HOLES),
    "value": ("InvalidValue", VALUES + [SHAPE]),
    "shape": ("InvalidValue", VALUES + [VALUE]),
    "context": ("InvalidValue", VALUES + [VALUE, SHAPE, LEAF, ("right", CONTEXT)]),
    "part": ("InvalidValue", [one for one in VALUES if type(one) is not int] + [SHAPE, VALUE]),
    "things": ("InvalidNumber", [True, False, -1, 21, 10 ** 399, None, "1", (), [1], Odd()]),
    "size": ("InvalidNumber", [True, False, -1, 21, 10 ** 399, None, "1", (), [1], Odd()]),
    "number": ("InvalidNumber", [True, False, -1, -10 ** 399, None, "1", (), [1], Odd()]),
    "path": ("NoSpot", [(), (1,), (1, 1, 1), (True, 1), [1, 1], None, 5, "11", Odd(), (1, Odd())]),
    "second": ("NoSpot", [(1,), (1, 1), (True, 2), [1, 2], None, 5, "12", Odd(), (1, Odd())]),
    "other": ("InvalidHole", HOLES),
    "inner": ("InvalidValue", VALUES + [VALUE, SHAPE, CONTEXT, ("right", CONTEXT_BY_ROW)]),
    "two": ("InvalidValue", VALUES + [VALUE, SHAPE, LEAF, CONTEXT, CONTEXT_BY_ROW, ("right", TWO)]),
    "second_part": ("InvalidValue", VALUES + [SHAPE, CONTEXT]),
    "rule": ("InvalidRule", odd_things() + [
        ("answer", 1), ("answer", True, 1), ["answer", 1, 0], ("take", 1, 0), ("answer", 1, 0, 0), ALGEBRA[0][1]]),
    "rounds": ("InvalidNumber", [True, False, -1, 100001, 10 ** 399, None, "1", (), [1], Odd()]),
    "deeds": ("InvalidDeeds", [
        (None, None), ([("next",)], None), ((("next",),) * 201, None), (Odd(), None), (("next",), 0), ((None,), 0),
        ((("next",), ("put", True)), 1), ((("in",), ("last",), ("Out",), ("put",)), 2)]),
    "algebra": ("InvalidAlgebra", [
        (None, None), (list(ALGEBRA), None), (dict(ALGEBRA), None), (Odd(), None), ((), None), (ALGEBRA * 2, None),
        ((None,), 0), ((("Row", RULE),), 0), ((("Rows", ALGEBRA[0][1]),), 0), ((list(ALGEBRA[0]),), 0)])}
# Of a state to which no loop comes nothing is said.
UNASKED = ["state"]
INDEXED = ["InvalidBook", "InvalidDeeds", "InvalidAlgebra"]
WRONG_FOR = {
    (context_within, "hole"): ("InvalidHole", [THING] + HOLES),
    (context_within, "context"): ("InvalidValue", VALUES + [VALUE, SHAPE, CONTEXT]),
    (fold_around, "number"): ("InvalidNumber", [True, False, None, "1", (), [1], Odd()])}


def right_of(function, parameter):
    if parameter == "text":
        return TEXTS[function]
    return RIGHT_FOR.get((function, parameter)) or RIGHT[parameter]


def asked_of(function):
    """The parameters of which something is asked."""
    return [one for one in inspect.signature(function).parameters if one not in UNASKED]


class TestArguments(unittest.TestCase):
    def refused(self, function, arguments, word, thing, index=None):
        with self.assertRaises(errors.HoleError) as held:
            function(**arguments)
        self.assertEqual(type(held.exception).__name__, word, function)
        if word in INDEXED:
            self.assertEqual(held.exception.index, index)
        elif word == "InvalidText":
            self.assertEqual((held.exception.line, held.exception.column), (None, None))
        else:
            self.assertIs(held.exception.given, thing)

    def wrong_ones(self, function, parameter):
        """Triples of the error, what is wrong, and the index for a book."""
        if parameter == "text":
            return [("InvalidText", one, None) for one in odd_things() if type(one) is not str]
        if function == show_kind:
            return [("InvalidKind", one, None) for one in NO_KINDS]
        word, told = WRONG_FOR.get((function, parameter)) or WRONG[parameter]
        if word in INDEXED:
            return [(word, one, index) for one, index in told]
        return [(word, one, None) for one in told]

    def test_all_right(self):
        for function in FUNCTIONS:
            parameters = list(inspect.signature(function).parameters)
            by_position = function(*[right_of(function, one) for one in parameters])
            by_name = function(**{one: right_of(function, one) for one in reversed(parameters)})
            self.assertEqual(by_position, by_name)

    def test_each_wrong_by_itself(self):
        for function in FUNCTIONS:
            parameters = list(inspect.signature(function).parameters)
            for parameter in asked_of(function):
                for word, thing, index in self.wrong_ones(function, parameter):
                    arguments = {one: right_of(function, one) for one in parameters}
                    arguments[parameter] = thing
                    self.refused(function, arguments, word, thing, index)

    def test_the_first_of_several_in_the_order_of_the_signature(self):
        for function in FUNCTIONS:
            parameters = list(inspect.signature(function).parameters)
            for many in range(2, len(parameters) + 1):
                for wrong in itertools.combinations(asked_of(function), many):
                    arguments = {one: right_of(function, one) for one in parameters}
                    for parameter in wrong:
                        arguments[parameter] = self.wrong_ones(function, parameter)[0][1]
                    word, thing, index = self.wrong_ones(function, wrong[0])[0]
                    self.refused(function, arguments, word, thing, index)

    def test_what_a_name_has_is_no_part_of_the_thing(self):
        for thing in VALUES + [5]:
            self.refused(
                fill, {"book": ROWS, "kind": ROW, "hole": ROW, "context": LEAF, "part": thing}, "InvalidValue", thing)

    def test_what_comes_last(self):
        for number in [1, 2, 10 ** 399]:
            self.refused(
                shape_of, {"book": ROWS, "kind": ROW, "things": 1, "size": 2, "number": number}, "NoShape", number)
        self.assertRaises(errors.InvalidNumber, shape_of, ROWS, ROW, 1, 21, 5)
        self.assertRaises(errors.InvalidNumber, shape_of, ROWS, ROW, -1, 2, 5)


if __name__ == "__main__":
    unittest.main()
