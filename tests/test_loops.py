import unittest

from holekinds import loops as module
from holekinds.errors import InvalidAlgebra, InvalidBook, InvalidNumber, InvalidValue
from holekinds.folds import fold
from holekinds.holes import size
from holekinds.loops import end_of, loop, rounds_of, state
from tests import reference
from tests.rules import OWN, SUMS, TOTAL, Numbers, algebra_of, rule_of, samples_with_rules
from tests.samples import (
    BOXES, IDLES, LEAF, ROSES, ROWS, SAMPLES, THING, TREES, UNIT, Odd, either, name, nested, odd_things,
    pair, row_of)


class TestStates(unittest.TestCase):
    def test_each_sort_of_focus_and_of_frame_by_hand(self):
        row = name("Row")
        book, algebra, kind, rule, value = ROWS, SUMS, row, ("answer", 3, 1), row_of(5)
        inner, inner_rule = ROWS[0][1], SUMS[0][1]
        named, right = ("name", "Row", 3, 1), ("side", "right")
        told = [
            (("value", row, rule, value), ()),
            (("value", inner, inner_rule, value), (named,)),
            (("value", inner[2], inner_rule[2], value[1]), (named, right)),
            (("value", THING, TOTAL, 5), (named, right, ("behind", "plus", row, OWN, LEAF))),
            (("answer", 5), (named, right, ("behind", "plus", row, OWN, LEAF))),
            (("value", row, OWN, LEAF), (named, right, ("ahead", "plus", 5))),
            (("value", inner, inner_rule, LEAF), (named, right, ("ahead", "plus", 5), ("name", "Row", 1, 0))),
            (("value", UNIT, ("number", 0), ()),
             (named, right, ("ahead", "plus", 5), ("name", "Row", 1, 0), ("side", "left"))),
            (("answer", 0), (named, right, ("ahead", "plus", 5), ("name", "Row", 1, 0), ("side", "left"))),
            (("answer", 0), (named, right, ("ahead", "plus", 5), ("name", "Row", 1, 0))),
            (("answer", 0), (named, right, ("ahead", "plus", 5))),
            (("answer", 5), (named, right)),
            (("answer", 5), (named,)),
            (("answer", 16), ())]
        for rounds, one in enumerate(told):
            self.assertEqual(state(book, algebra, kind, rule, value, rounds), one)
        for rounds in [len(told) - 1, len(told), len(told) + 1, 100000]:
            self.assertEqual(state(book, algebra, kind, rule, value, rounds), told[-1])
        self.assertEqual(rounds_of(book, kind, value), len(told) - 1)

    def test_all_states_of_each_sample(self):
        for book, algebra, kind, rule, values in samples_with_rules(SAMPLES, 3, 4):
            for value in values:
                told = reference.states(book, algebra, kind, rule, value)
                for rounds, one in enumerate(told):
                    made = state(book, algebra, kind, rule, value, rounds)
                    self.assertEqual(made, one)
                    self.assertEqual((type(made), type(made[0]), type(made[1])), (tuple, tuple, tuple))
                for rounds in [len(told), len(told) + 7, 100000]:
                    self.assertEqual(state(book, algebra, kind, rule, value, rounds), told[-1])

    def test_the_end_of_each_state_is_the_fold_s_answer(self):
        for book, algebra, kind, rule, values in samples_with_rules(SAMPLES, 3, 4):
            for value in values:
                number = fold(book, algebra, kind, rule, value)
                for rounds in range(rounds_of(book, kind, value) + 1):
                    self.assertEqual(
                        end_of(book, algebra, state(book, algebra, kind, rule, value, rounds)), number)

    def test_numbers_of_rounds(self):
        value = row_of(5, 6)
        for thing in odd_things() + [True, False, -1, 100001, 10 ** 399, None, "5", ()]:
            if type(thing) is int and 0 <= thing <= 100000:
                continue
            with self.assertRaises(InvalidNumber) as held:
                state(ROWS, SUMS, name("Row"), OWN, value, thing)
            self.assertIs(held.exception.given, thing)
        self.assertEqual(state(ROWS, SUMS, name("Row"), OWN, value, 100000), (("answer", 11), ()))
        self.assertEqual(state(ROWS, SUMS, name("Row"), OWN, value, 0), (("value", name("Row"), OWN, value), ()))
        # All else is asked ahead of the rounds.
        self.assertRaises(InvalidValue, state, ROWS, SUMS, name("Row"), OWN, 5, -1)


class TestRounds(unittest.TestCase):
    def test_by_pairs_sides_and_size(self):
        told = [
            ((), THING, 5, 1), ((), UNIT, (), 1), ((), pair(THING, UNIT), ("pair", 5, ()), 5),
            ((), either(THING, UNIT), ("right", ()), 3), (ROWS, name("Row"), LEAF, 5), (ROWS, name("Row"), row_of(5), 13),
            (ROWS, name("Row"), row_of(5, 6), 21), (BOXES, name("Twin"), ("right", ()), 9)]
        for book, kind, value, rounds in told:
            self.assertEqual(rounds_of(book, kind, value), rounds)

    def test_whatever_the_rules_are(self):
        for book, algebra, kind, rule, values in samples_with_rules(SAMPLES, 3, 4):
            for value in values:
                rounds = rounds_of(book, kind, value)
                self.assertEqual(len(reference.states(book, algebra, kind, rule, value)), rounds + 1)
                self.assertEqual(
                    loop(book, algebra, kind, rule, value), (fold(book, algebra, kind, rule, value), rounds))
                words = repr(value)
                many = 4 * words.count("'pair'") + 2 * (words.count("'left'") + words.count("'right'"))
                self.assertEqual(rounds, many + 2 * size(book, kind, value) + 1)

    def test_one_round_less_is_no_end_yet(self):
        for book, algebra, kind, rule, values in samples_with_rules(SAMPLES, 2, 4):
            for value in values:
                rounds = rounds_of(book, kind, value)
                for less in [1, 2]:
                    if rounds >= less:
                        focus, frames = state(book, algebra, kind, rule, value, rounds - less)
                        self.assertTrue(focus[0] == "value" or frames != ())
                focus, frames = state(book, algebra, kind, rule, value, rounds)
                self.assertEqual((focus, frames), (("answer", fold(book, algebra, kind, rule, value)), ()))


class TestGreatValues(unittest.TestCase):
    def agree(self, book, kind, value, rounds, seeds=2):
        self.assertEqual(rounds_of(book, kind, value), rounds)
        for seed in range(seeds):
            numbers = Numbers(seed)
            algebra, rule = algebra_of(book, numbers), rule_of(kind, numbers)
            number = fold(book, algebra, kind, rule, value)
            self.assertEqual(loop(book, algebra, kind, rule, value), (number, rounds))
            for many in [0, 1, rounds // 3, rounds // 2, rounds - 1, rounds, rounds + 1]:
                one = state(book, algebra, kind, rule, value, many)
                self.assertEqual(end_of(book, algebra, one), number)
                self.assertEqual((one[0][0], one[1]) == ("answer", ()), many >= rounds)

    def test_rows(self):
        self.agree(ROWS, name("Row"), row_of(*range(-70, 70)), 140 * 8 + 5)

    def test_combs(self):
        comb = nested(LEAF, lambda told: ("right", ("pair", told, ("pair", 5, LEAF))), 66)
        self.agree(TREES, name("Tree"), comb, 66 * (8 + 2 + 2 + 4) + 5)
        comb = nested(LEAF, lambda told: ("right", ("pair", LEAF, ("pair", 5, told))), 66)
        self.agree(TREES, name("Tree"), comb, 66 * (8 + 2 + 2 + 4) + 5)

    def test_chains_of_sides(self):
        tall = nested(("left", 5), lambda told: ("right", told), 140)
        self.agree(IDLES, name("Idle"), tall, 141 * 2 + (140 * 2 + 1) * 2 + 1)

    def test_names_in_turn(self):
        roses = nested(LEAF, lambda told: ("right", ("pair", ("pair", 5, LEAF), told)), 66)
        self.agree(ROSES, name("Roses"), roses, 66 * (8 + 4 + 6) + 5)
        deep = nested(LEAF, lambda told: ("right", ("pair", ("pair", 5, told), LEAF)), 60)
        self.agree(ROSES, name("Roses"), deep, 60 * (8 + 4 + 6) + 5)
        boxes = nested(("right", ()), lambda told: ("left", ("pair", told, 5)), 90)
        self.agree(BOXES, name("Twin"), boxes, 90 * (4 + 2 + 4) + 2 + 6 + 1)


class TestCalls(unittest.TestCase):
    def test_by_the_told_names(self):
        row = name("Row")
        self.assertEqual(state(
            rounds=0, value=LEAF, rule=OWN, kind=row, algebra=SUMS, book=ROWS), (("value", row, OWN, LEAF), ()))
        self.assertEqual(loop(value=LEAF, rule=OWN, kind=row, algebra=SUMS, book=ROWS), (0, 5))
        self.assertEqual(rounds_of(value=LEAF, kind=row, book=ROWS), 5)
        self.assertEqual(end_of(state=(("answer", 5), (("name", "Row", 2, 1),)), algebra=SUMS, book=ROWS), 11)

    def test_they_are_defined_in_their_file(self):
        for function in [state, loop, rounds_of, end_of]:
            self.assertEqual(function.__module__, module.__name__)

    def test_wrong_books_and_algebras_of_a_state(self):
        one = (("answer", 5), ())
        for book, index in [(None, None), ((("Row", name("Tree")),), 0)]:
            with self.assertRaises(InvalidBook) as held:
                end_of(book, None, one)
            self.assertEqual(held.exception.index, index)
        for algebra, index in [(None, None), ((), None), ((("Row", OWN),), 0), (Odd(), None)]:
            with self.assertRaises(InvalidAlgebra) as held:
                end_of(ROWS, algebra, one)
            self.assertEqual(held.exception.index, index)

    def test_a_second_call_tells_the_same(self):
        first = state(ROWS, SUMS, name("Row"), OWN, row_of(5), 7)
        self.assertEqual(state(ROWS, SUMS, name("Row"), OWN, row_of(5), 7), first)
        self.assertEqual(end_of(ROWS, SUMS, first), end_of(ROWS, SUMS, first))


if __name__ == "__main__":
    unittest.main()
