import itertools
import unittest

from holekinds import folds as module
from holekinds.errors import (
    InvalidAlgebra, InvalidBook, InvalidHole, InvalidKind, InvalidNumber, InvalidRule, InvalidValue)
from holekinds.folds import fold, fold_around, fold_of_part, is_algebra, is_rule
from holekinds.holes import book_by, fill, kind_by, mark, spots
from tests import reference
from tests.rules import OWN, ROW_SUM, SUMS, TOTAL, WORDS, Numbers, algebra_of, rule_of, samples_with_rules
from tests.samples import (
    IDLES, LEAF, LOST, NONE, ROSES, ROUND, ROW, ROWS, SAMPLES, THING, TREES, UNIT, Odd, OddText, OddTuple,
    deep_kind, either, holes_of, name, nested, odd_things, pair, row_of, wide_kind)


class TestRules(unittest.TestCase):
    def test_each_sort(self):
        told = [
            (THING, ("take", 1, 0)), (THING, ("take", -3, 10 ** 399)), (UNIT, ("number", 0)), (UNIT, ("number", -7)),
            (NONE, ("none",)), (name("Row"), ("answer", 0, 0)), (name("Row'"), ("answer", -1, 5)),
            (either(THING, UNIT), ("case", ("take", 1, 2), ("number", 3))),
            (either(NONE, NONE), ("case", ("none",), ("none",)))]
        told += [(pair(THING, name("A")), (word, ("take", 1, 2), ("answer", 3, 4))) for word in WORDS]
        for kind, rule in told:
            self.assertIs(is_rule(kind, rule), True)
            for other, _ in told:
                if other[0] != kind[0]:
                    self.assertIs(is_rule(other, rule), False)

    def test_some_of_each_sample(self):
        for book, algebra, kind, rule, _ in samples_with_rules(SAMPLES):
            self.assertIs(is_rule(kind, rule), True)
            self.assertIs(is_algebra(book, algebra), True)

    def wrong_near(self, rule):
        """What is near the rule and no rule beside any kind of its sort."""
        yield from [list(rule), rule + (0,), rule + (rule[-1],), rule[:-1], (rule,), (), None, rule[0], OddTuple(rule)]
        for word in ["take", "number", "none", "case", "answer", "Plus", "", "minus", None, 1, Odd(), OddText(rule[0])]:
            if not (type(word) is str and (word == rule[0] or {word, rule[0]} == {"take", "answer"})):
                yield (word,) + rule[1:]
        for at in range(1, len(rule)):
            for thing in [True, False, None, "1", (), (1,), [1], 3j, Odd(), ("take",), ("none", 1)]:
                yield rule[:at] + (thing,) + rule[at + 1:]

    def test_what_is_near_a_rule(self):
        told = [
            (THING, ("take", 1, 0)), (UNIT, ("number", 0)), (NONE, ("none",)), (name("Row"), ("answer", 1, 0)),
            (pair(THING, THING), ("plus", TOTAL, TOTAL)), (either(UNIT, THING), ("case", ("number", 0), TOTAL))]
        for kind, rule in told:
            for thing in self.wrong_near(rule):
                self.assertIs(is_rule(kind, thing), False)
                # At any depth.
                deep, deep_rule = kind, thing
                for word in WORDS:
                    deep, deep_rule = either(pair(UNIT, deep), UNIT), ("case", (word, ("number", 1), deep_rule), ("number", 2))
                self.assertIs(is_rule(deep, deep_rule), False)
        self.assertIs(is_rule(name("Row"), ("take", 1, 0)), False)
        self.assertIs(is_rule(THING, ("answer", 1, 0)), False)
        self.assertIs(is_rule(pair(THING, THING), ("case", TOTAL, TOTAL)), False)
        self.assertIs(is_rule(either(THING, THING), ("plus", TOTAL, TOTAL)), False)

    def test_whatever_it_is(self):
        for kind in [THING, UNIT, name("Row"), pair(THING, UNIT), either(UNIT, THING), wide_kind(1999), deep_kind(30)]:
            for thing in odd_things():
                self.assertIs(is_rule(kind, thing), False)
        for thing in odd_things():
            self.assertIs(is_rule(NONE, thing), False)

    def test_great_kinds(self):
        for kind in [wide_kind(1999, THING), deep_kind(30, THING), wide_kind(1999, name("Row"))]:
            rule = rule_of(kind, Numbers(7))
            self.assertIs(is_rule(kind, rule), True)
            self.assertIs(is_rule(kind, (rule[0], rule[2], rule[1])), rule[1] == rule[2])

    def test_no_kind(self):
        for thing in odd_things() + [deep_kind(31), wide_kind(2001), ["unit"]]:
            with self.assertRaises(InvalidKind) as held:
                is_rule(thing, ("number", 1))
            self.assertIs(held.exception.given, thing)


class TestAlgebras(unittest.TestCase):
    ROSE_RULES = (
        ("Roses", ("case", ("number", 0), ("plus", OWN, OWN))), ("Stem", ("times", TOTAL, ("answer", 2, 1))))

    def refused(self, book, algebra, index):
        self.assertIs(is_algebra(book, algebra), False)
        for call in [
                lambda: fold(book, algebra, None, None, None), lambda: fold_of_part(book, algebra, None, None),
                lambda: fold_around(book, algebra, None, None, None, None, None)]:
            with self.assertRaises(InvalidAlgebra) as held:
                call()
            self.assertEqual(held.exception.index, index)
            self.assertIs(type(held.exception.index), type(index))

    def test_some(self):
        self.assertIs(is_algebra((), ()), True)
        self.assertIs(is_algebra(ROWS, SUMS), True)
        self.assertIs(is_algebra(ROSES, self.ROSE_RULES), True)
        self.assertIs(is_algebra(book_by(ROWS, THING), algebra_of(book_by(ROWS, THING), Numbers(1))), True)

    def test_no_tuple_of_as_many(self):
        for book, algebra in [(ROWS, SUMS), (ROSES, self.ROSE_RULES)]:
            for thing in [list(algebra), dict(algebra), None, algebra[:-1], algebra + algebra[:1], OddTuple(algebra),
                          algebra + (None,), ()]:
                self.refused(book, thing, None)
        for thing in [None, [], {}, "", 0, False, SUMS, OddTuple()]:
            self.refused((), thing, None)
        for thing in odd_things():
            self.assertIs(is_algebra(ROSES, thing), False)
            self.assertIs(is_algebra(ROSES, (thing, thing)), False)

    def test_the_first_wrong_pair(self):
        first, second = self.ROSE_RULES
        wrong = [
            None, (), ("Stem",), second + (1,), list(second), ("Stem'", second[1]), ("stem", second[1]),
            (OddText("Stem"), second[1]), (Odd(), second[1]), (name("Stem"), second[1]), ("Stem", first[1]),
            ("Stem", ("times", ("take", True, 0), ("answer", 2, 1))), ("Stem", ["times", TOTAL, OWN]),
            ("Stem", ("times", ["take", 1, 0], OWN)), ("Stem", ("times", TOTAL, OWN, OWN)), ("Stem", ("case", TOTAL, OWN)),
            ("Stem", ("times", TOTAL)), ("Stem", ("times", OWN, TOTAL)), ("Stem", None)] + odd_things()
        for thing in wrong:
            self.refused(ROSES, (first, thing), 1)
            self.refused(ROSES, (thing, thing), 0)
            self.refused(ROSES, (("Roses", None), thing), 0)
        self.refused(ROSES, (second, first), 0)
        self.refused(ROSES, (first, first), 1)

    def test_no_book(self):
        for thing in [None, list(ROWS), (("Row", name("Tree")),)]:
            self.assertRaises(InvalidBook, is_algebra, thing, SUMS)


class TestFolds(unittest.TestCase):
    def test_each_sort_of_rule(self):
        self.assertEqual(fold((), (), THING, ("take", 3, 4), 5), 19)
        self.assertEqual(fold((), (), THING, ("take", -3, -4), -5), 11)
        self.assertEqual(fold((), (), THING, ("take", 0, 4), 10 ** 399), 4)
        self.assertEqual(fold((), (), UNIT, ("number", -8), ()), -8)
        told = {"plus": 12, "times": 35, "greater": 7, "less": -2}
        for word, number in told.items():
            self.assertEqual(fold((), (), pair(THING, THING), (word, TOTAL, TOTAL), ("pair", 5, 7)), number)
        self.assertEqual(fold((), (), pair(THING, THING), ("greater", TOTAL, TOTAL), ("pair", 7, 5)), 7)
        self.assertEqual(fold((), (), pair(THING, THING), ("less", TOTAL, TOTAL), ("pair", 7, -5)), 12)
        for side, number in [("left", 10), ("right", 25)]:
            self.assertEqual(
                fold((), (), either(THING, THING), ("case", ("take", 2, 0), ("take", 5, 0)), (side, 5)), number)
        self.assertEqual(fold(ROWS, SUMS, name("Row"), ("answer", 10, 1), row_of(5, 6)), 111)
        self.assertEqual(fold(ROWS, SUMS, ROW, ROW_SUM, row_of(5, 6)), 11)
        self.assertEqual(fold(ROWS, SUMS, ROW, ("case", ("number", 0), ("less", TOTAL, ("answer", 1, 100))), row_of(5, 6)), -101)

    def test_the_rule_beside_a_name_stands_where_the_name_stands(self):
        lengths = (("Row", ("case", ("number", 0), ("plus", ("take", 0, 0), ("answer", 1, 1)))),)
        self.assertEqual(fold(ROWS, lengths, name("Row"), OWN, row_of(5, 6, 7)), 3)
        self.assertEqual(fold(ROWS, lengths, name("Row"), ("answer", 0, 9), row_of(5, 6, 7)), 9)
        both = pair(name("Row"), name("Row"))
        self.assertEqual(
            fold(ROWS, lengths, both, ("less", ("answer", 2, 0), ("answer", 1, 5)), ("pair", row_of(5), row_of(6, 7))), -5)
        figures = (("Row", ("case", ("number", 0), ("plus", TOTAL, ("answer", 10, 0)))),)
        self.assertEqual(fold(ROWS, figures, name("Row"), OWN, row_of(1, 2, 3)), 321)

    def test_names_by_names_alone(self):
        rules = (("Again", ("answer", 2, 1)), ("Idle", ("case", TOTAL, ("answer", 3, 0))))
        self.assertEqual(fold(IDLES, rules, name("Idle"), OWN, ("left", 5)), 5)
        self.assertEqual(fold(IDLES, rules, name("Again"), OWN, ("left", 5)), 11)
        self.assertEqual(fold(IDLES, rules, name("Idle"), OWN, ("right", ("left", 5))), 33)

    def test_as_the_document_tells_it(self):
        for book, algebra, kind, rule, values in samples_with_rules(SAMPLES, 3, 4, 4):
            for value in values:
                self.assertEqual(
                    fold(book, algebra, kind, rule, value), reference.fold(book, algebra, kind, rule, value))

    def test_great_numbers_and_values(self):
        great = 10 ** 399
        value = row_of(*[great] * 90)
        self.assertEqual(fold(ROWS, SUMS, name("Row"), OWN, value), 90 * great)
        products = (("Row", ("case", ("number", 1), ("times", TOTAL, OWN))),)
        self.assertEqual(fold(ROWS, products, name("Row"), OWN, row_of(*[10] * 90)), 10 ** 90)
        self.assertEqual(fold(ROWS, products, name("Row"), OWN, row_of(-10, 10 ** 200, 10 ** 198)), -10 ** 399)
        doubled = (("Again", ("answer", 2, 0)), ("Idle", ("case", TOTAL, ("answer", 1, 0))))
        tall = nested(("left", 5), lambda told: ("right", told), 140)
        self.assertEqual(fold(IDLES, doubled, name("Idle"), OWN, tall), 5 * 2 ** 140)

    def test_no_rule(self):
        for thing in odd_things() + [TOTAL, ("answer", 1, True), ("answer", 1), ["answer", 1, 0], ("answer", 1, 0, 0)]:
            for value in [row_of(5), None]:
                with self.assertRaises(InvalidRule) as held:
                    fold(ROWS, SUMS, name("Row"), thing, value)
                self.assertIs(held.exception.given, thing)


class TestParts(unittest.TestCase):
    def test_of_the_thing(self):
        for number in [0, 5, -7, 10 ** 399]:
            self.assertEqual(fold_of_part(ROWS, SUMS, THING, number), number)
            self.assertEqual(fold_of_part((), (), THING, number), number)

    def test_of_a_name(self):
        self.assertEqual(fold_of_part(ROWS, SUMS, name("Row"), row_of(5, 6)), 11)
        for book, algebra, _, _, _ in samples_with_rules(SAMPLES):
            for hole in holes_of(book)[1:]:
                for part in reference.values(book, hole, 2, 3):
                    self.assertEqual(
                        fold_of_part(book, algebra, hole, part),
                        reference.fold(
                            book, algebra, dict(book)[hole[1]], dict(algebra)[hole[1]], part))

    def test_wrong_parts(self):
        for hole, wrong in [(THING, [True, LEAF, (), None]), (name("Row"), [5, (), None, ("right", 5)])]:
            for thing in wrong:
                with self.assertRaises(InvalidValue) as held:
                    fold_of_part(ROWS, SUMS, hole, thing)
                self.assertIs(held.exception.given, thing)
        for thing in [name("Tree"), UNIT, None]:
            with self.assertRaises(InvalidHole) as held:
                fold_of_part(ROWS, SUMS, thing, None)
            self.assertIs(held.exception.given, thing)


class TestContexts(unittest.TestCase):
    def test_by_hand(self):
        row = name("Row")
        context = ("right", ("left", ("pair", (), row_of(7))))
        self.assertEqual(fold_around(ROWS, SUMS, row, OWN, THING, context, 5), 12)
        self.assertEqual(fold_around(ROWS, SUMS, row, ("answer", 2, 1), THING, context, -7), 1)
        context = ("right", ("right", ("right", ("pair", 7, LEAF))))
        self.assertEqual(fold_around(ROWS, SUMS, row, OWN, row, context, 5), 12)
        self.assertEqual(fold_around(ROWS, SUMS, row, ("answer", 2, 1), row, LEAF, 5), 11)
        self.assertEqual(fold_around((), (), THING, ("take", 2, 1), THING, (), 5), 11)
        kind, rule = pair(THING, THING), ("less", TOTAL, ("take", 3, 0))
        self.assertEqual(fold_around((), (), kind, rule, THING, ("left", ("pair", (), 4)), 5), -7)
        self.assertEqual(fold_around((), (), kind, rule, THING, ("right", ("pair", 4, ())), 5), -11)

    def test_with_the_part_s_number_it_tells_what_the_fold_tells(self):
        for book, algebra, kind, rule, values in samples_with_rules(SAMPLES, 2, 3):
            for hole, value in itertools.product(holes_of(book), values):
                for path in spots(book, kind, hole, value):
                    context, part = mark(book, kind, hole, value, path)
                    number = fold_of_part(book, algebra, hole, part)
                    self.assertEqual(
                        fold_around(book, algebra, kind, rule, hole, context, number),
                        fold(book, algebra, kind, rule, value))

    def test_with_another_one_it_tells_what_it_tells_with_another_part_there(self):
        for book, algebra, kind, rule, values in samples_with_rules(SAMPLES, 2, 3):
            for hole in holes_of(book):
                parts = reference.values(book, hole, 1, 3)[:3] + [-40] * (hole == THING)
                for context in reference.values(book_by(book, hole), kind_by(book, kind, hole), 1, 3):
                    for part in parts:
                        number = fold_of_part(book, algebra, hole, part)
                        self.assertEqual(
                            fold_around(book, algebra, kind, rule, hole, context, number),
                            fold(book, algebra, kind, rule, fill(book, kind, hole, context, part)))

    def test_parts_with_one_number_may_stand_for_one_another(self):
        row, kind = name("Row"), pair(name("Row"), THING)
        rule = ("times", ("answer", 3, 1), TOTAL)
        for context in reference.values(book_by(ROWS, row), kind_by(ROWS, kind, row), 2, 3):
            told = {fold(ROWS, SUMS, kind, rule, fill(ROWS, kind, row, context, part))
                    for part in [row_of(5, 6), row_of(11), row_of(6, 5), row_of(-1, 12, 0)]}
            self.assertEqual(told, {fold_around(ROWS, SUMS, kind, rule, row, context, 11)})

    def test_whatever_number_it_is(self):
        for book, algebra, kind, rule, values in samples_with_rules(SAMPLES, 1, 3):
            for hole in holes_of(book):
                for context in reference.values(book_by(book, hole), kind_by(book, kind, hole), 1, 3):
                    for number in [0, 1, -3, 10 ** 30]:
                        self.assertEqual(
                            fold_around(book, algebra, kind, rule, hole, context, number),
                            reference.fold_around(book, algebra, kind, rule, hole, context, number))

    def test_names_without_values(self):
        rules = (
            ("A", ("answer", 2, 1)), ("B", ("answer", 3, 0)), ("C", ("case", ("answer", 5, 2), ("plus", OWN, OWN))),
            ("D", ("number", 4)))
        deep = [nested(LEAF, lambda told: ("right", told), times) for times in range(4)]
        # A by A: here; behind B and A again, once or twice.
        told = [(name("A"), name("A"), 0, 7), (name("A"), name("A"), 1, 43), (name("A"), name("A"), 2, 259),
                (name("A"), name("B"), 0, 15), (name("A"), name("B"), 1, 91), (name("B"), name("A"), 1, 129)]
        for kind, hole, times, number in told:
            self.assertEqual(fold_around(ROUND, rules, kind, OWN, hole, deep[times], 7), number)
        self.assertEqual(fold_around(ROUND, rules, name("C"), OWN, name("A"), ("left", LEAF), 7), 37)
        for kind, hole in itertools.product([name("A"), name("B")], repeat=2):
            for times in range(4):
                self.assertEqual(
                    fold_around(ROUND, rules, kind, ("answer", -1, 1), hole, deep[times], 7),
                    reference.fold_around(ROUND, rules, kind, ("answer", -1, 1), hole, deep[times], 7))
        lost = (("Lost", ("plus", TOTAL, ("answer", 2, 0))), ("Some", ("case", OWN, ("plus", TOTAL, ("case", ("number", 0), OWN)))))
        context = ("right", ("right", ("pair", 5, LEAF)))
        self.assertEqual(fold_around(LOST, lost, name("Lost"), OWN, name("Lost"), context, 7), 19)

    def test_wrong_numbers(self):
        for thing in [True, False, None, "5", (), 3j, Odd()]:
            with self.assertRaises(InvalidNumber) as held:
                fold_around(ROWS, SUMS, name("Row"), OWN, name("Row"), LEAF, thing)
            self.assertIs(held.exception.given, thing)

    def test_great_contexts(self):
        row = name("Row")
        context = mark(ROWS, row, row, row_of(*range(90)), (1, 2) * 90)[0]
        self.assertEqual(fold_around(ROWS, SUMS, row, OWN, row, context, 1000), 5005)


class TestCalls(unittest.TestCase):
    def test_by_the_told_names(self):
        row = name("Row")
        self.assertIs(is_rule(value=OWN, kind=row), True)
        self.assertIs(is_algebra(value=SUMS, book=ROWS), True)
        self.assertEqual(fold(value=row_of(5), rule=OWN, kind=row, algebra=SUMS, book=ROWS), 5)
        self.assertEqual(fold_of_part(part=row_of(5), hole=row, algebra=SUMS, book=ROWS), 5)
        self.assertEqual(fold_around(
            number=6, context=LEAF, hole=row, rule=OWN, kind=row, algebra=SUMS, book=ROWS), 6)

    def test_they_are_defined_in_their_file(self):
        for function in [is_rule, is_algebra, fold, fold_of_part, fold_around]:
            self.assertEqual(function.__module__, module.__name__)

    def test_of_trees(self):
        tree = name("Tree")
        rules = (("Tree", ("case", ("number", 1), ("times", OWN, ("plus", TOTAL, OWN)))),)
        value = ("right", ("pair", LEAF, ("pair", 5, LEAF)))
        self.assertEqual(fold(TREES, rules, tree, OWN, value), 6)
        self.assertEqual(fold_around(TREES, rules, tree, OWN, THING, ("right", ("right", ("pair", LEAF, (
            "left", ("pair", (), LEAF))))), 9), 10)


if __name__ == "__main__":
    unittest.main()
