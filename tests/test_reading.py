import itertools
import random
import unittest

from holekinds import text as module
from holekinds.errors import InvalidBook, InvalidKind, InvalidText
from holekinds.text import read_book, read_kind, read_shape, read_value
from tests import reference
from tests.samples import (
    BOXES, LOST, NONE, ROUND, ROW, ROW_BY_THING, ROWS, ROWS_BY_ALL, SAMPLES, THING, TREES, UNIT, deep_kind,
    either, name, nested, odd_things, pair, wide_kind)

LEAF = ("left", ())


def end_of(text):
    """The line and the column behind the last sign of the text."""
    lines = text.split("\n")
    return len(lines), len(lines[-1]) + 1


def place_in(text, at):
    """The line and the column of the sign at the place."""
    return end_of(text[:at])


def laid_out(tokens, between):
    """The text of the tokens, with what stands between them, and where each token begins."""
    text, places = "", []
    for token, blank in zip(tokens, between):
        text += blank
        places.append(len(text))
        text += token
    return text + between[len(tokens)], places


class Refusals(unittest.TestCase):
    def refused(self, call, text, place):
        with self.assertRaises(InvalidText) as held:
            call(text)
        self.assertEqual((held.exception.line, held.exception.column), place, text)

    def looked_through(self, call, right, alphabet, longest):
        """Each row of up to so many tokens is read, or refused at the first token that is wrong."""
        beginnings = {row[:at] for row in right for at in range(len(row) + 1)}
        for many in range(longest + 1):
            for row in itertools.product(alphabet, repeat=many):
                text, places = laid_out(row, [""] + [" "] * many)
                wrong = [at for at in range(many) if row[:at + 1] not in beginnings]
                if wrong:
                    self.refused(call, text, place_in(text, places[wrong[0]]))
                elif row in right:
                    call(text)
                else:
                    self.refused(call, text, end_of(text))


class TestTokens(Refusals):
    def kinds_refused(self, told):
        for text, line, column in told:
            self.refused(read_kind, text, (line, column))

    def test_words(self):
        for text in ["thing", " thing", "thing ", "\nthing\n", "thing#", "thing # x\n# y", "#x\nthing"]:
            self.assertEqual(read_kind(text), THING)
        self.kinds_refused([
            ("thin", 1, 1), ("things", 1, 1), ("thingsss", 1, 1), ("thingssss", 1, 9), ("abcdefghi", 1, 9),
            ("abcdefgh", 1, 1), ("abcdefghijkl", 1, 9), ("thing unitunit", 1, 7), ("thing unitunits", 1, 15),
            ("thingthing", 1, 9), ("th ing", 1, 1), ("th\ning", 1, 1), ("thing#\nabcdefghi", 2, 9), ("left", 1, 1)])

    def test_words_end_where_something_else_begins(self):
        self.kinds_refused([
            ("thing5", 1, 6), ("thingRow", 1, 6), ("thing05", 1, 7), ("thing'", 1, 6), ("thing-5", 1, 6),
            ("thing-", 1, 6), ("abcdefgh5", 1, 1), ("abcdefghR", 1, 1)])

    def test_names(self):
        told = ["R", "Row", "R2d2", "Abcdefgh", "A1234567", "Row'", "Row''", "Row'Row", "Row''Row", "A'B'C'",
                "Abcdefgh'Abcdefgh", "A" + "'" * 59, "A'" * 30, ("Abcdefgh'" * 7)[:60]]
        for text in told:
            self.assertEqual(read_kind(text), name(text))
            self.assertEqual(read_kind(" (" + text + ")"), name(text))

    def test_names_that_are_broken_off(self):
        long = "Abcdefgh'" * 6 + "Abcdef"
        self.assertEqual((len(long), read_kind(long)), (60, name(long)))
        self.kinds_refused([
            ("Abcdefghi", 1, 9), ("A12345678", 1, 9), ("Abcdefgh9x", 1, 9), ("Row'Abcdefghi", 1, 13),
            ("Row''Abcdefgh0", 1, 14), ("Abcdefghi'", 1, 9), ("A" + "'" * 60, 1, 61), ("A'" * 30 + "A", 1, 61),
            (long + "g", 1, 61), (long + "'", 1, 61), (long + "7'A", 1, 61), ("thing | Abcdefghi", 1, 17),
            ("thing Abcdefghi", 1, 15), ("thing " + "A'" * 31, 1, 67)])

    def test_names_end_where_something_else_begins(self):
        long = "Abcdefgh'" * 6 + "Abcdef"
        self.kinds_refused([
            ("RowRow", 1, 4), ("AbcdefghB", 1, 9), ("Row'thing", 1, 5), ("Row'5", 1, 5), ("Row '", 1, 5),
            ("Row' Row", 1, 6), ("'Row", 1, 1), ("Row'Abcdefgh'Rrr thing", 1, 18), (long + "G", 1, 61),
            ("A'" * 30 + "a", 1, 61), ("A'" * 30 + "5", 1, 61), ("A'" * 30 + "#\n'", 2, 1), ("A" * 61, 1, 2)])

    def test_whole_numbers(self):
        for text, number in [
                ("0", 0), ("7", 7), ("10", 10), ("-1", -1), ("-10", -10), ("1002", 1002), (" 5 ", 5),
                ("9" * 400, int("9" * 400)), ("-" + "9" * 400, -int("9" * 400)), ("-9 # -", -9)]:
            self.assertEqual(read_value((), THING, text), number)

    def test_numbers_that_are_broken_off(self):
        told = [
            ("00", 1, 2), ("05", 1, 2), ("007", 1, 2), ("-0", 1, 2), ("-05", 1, 2), ("-00", 1, 2), ("-", 1, 1),
            ("--5", 1, 1), ("- 5", 1, 1), ("-a", 1, 1), ("-#5", 1, 1), ("9" * 401, 1, 401),
            ("-" + "9" * 401, 1, 402), ("1" + "0" * 400, 1, 401), ("0" * 401, 1, 2), ("9" * 500, 1, 401)]
        for text, line, column in told:
            self.refused(lambda one: read_value((), THING, one), text, (line, column))
            # Behind a whole value they are met as they stand, too.
            self.refused(lambda one: read_value((), THING, one), "3\n" + text, (2, column))
            self.refused(read_kind, "thing " + text, (1, column + 6))

    def test_numbers_end_where_something_else_begins(self):
        for text, line, column in [
                ("5-3", 1, 2), ("5 3", 1, 3), ("0-5", 1, 2), ("5a", 1, 2), ("5R", 1, 2), ("0a", 1, 2), ("0 0", 1, 3),
                ("5-", 1, 2), ("5-0", 1, 3), ("5+3", 1, 2), ("5.0", 1, 2), ("5_0", 1, 2)]:
            self.refused(lambda one: read_value((), THING, one), text, (line, column))

    def test_signs_where_no_token_begins(self):
        signs = "'\"\t\r\f\v\\/-+.<>[]{}!?@$%^&_~`\0\x7f\u00a0\u00e9\u00c9\u00b2\u0663\uff11\u2028\u03b1\ud800\U0001d400"
        for sign in signs:
            for text, at in [(sign, 0), (" " + sign, 1), ("#" + "\n" + sign, 2), ("thing" + sign, 5),
                             ("thing\n|" + sign + "thing", 7), ("(thing," + sign, 7), ("Row|" + sign, 4)]:
                self.refused(read_kind, text, place_in(text, at))
            # In a remark each sign may stand.
            self.assertEqual(read_kind("thing #" + sign + "\n"), THING)

    def test_each_sign_that_python_calls_printable(self):
        for sign in [chr(one) for one in range(33, 127) if chr(one) not in "(#"]:
            capital = sign in "ABCDEFGHIJKLMNOPQRSTUVWXYZ"
            self.refused(read_kind, sign + " thing", (1, 3 if capital else 1))
            self.refused(read_kind, "thing " + sign, (1, 8 if sign == "|" else 7))
            if sign not in "0123456789":
                self.refused(lambda one: read_value((), THING, one), "5" + sign, (1, 2))
            if sign not in "-0123456789":
                self.refused(lambda one: read_value((), THING, one), sign + "5", (1, 1))

    def test_signs_that_are_tokens_elsewhere(self):
        for sign in ")|,=;*:":
            self.refused(read_kind, sign, (1, 1))
            self.refused(read_kind, "thing|" + sign, (1, 7))
        for sign in "(),=;*:":
            self.refused(read_kind, "thing" + sign, (1, 6))

    def test_blanks_ends_of_lines_and_remarks(self):
        text = "#| ( abcdefghi\n ( # ) 05\n\n thing#,\n,#\n\n#\nRow)#"
        self.assertEqual(read_kind(text), pair(THING, name("Row")))
        self.assertEqual(read_kind("thing#|thing\n|#\n\nunit"), either(THING, UNIT))
        for text in ["", " ", "\n", " \n ", "#", "# thing", "#\n", "#\n#thing", "\n\n  # thing \n "]:
            self.refused(read_kind, text, end_of(text))

    def test_lines_and_columns(self):
        self.kinds_refused([
            ("\n\n )", 3, 2), ("thing\n thing", 2, 2), ("# a\n# b\n  Row Row", 3, 7), ("(thing,\n unit,\nnone)", 2, 6),
            ("(\n\n", 3, 1), ("( # x", 1, 6), ("(thing ", 1, 8), ("thing |\n", 2, 1), ("thing | # |", 1, 12)])

    def test_what_is_no_text(self):
        for thing in [one for one in odd_things() if type(one) is not str] + [b"thing", ["thing"], THING]:
            for call in [read_kind, read_book, lambda one: read_value((), THING, one),
                         lambda one: read_shape((), THING, one)]:
                self.refused(call, thing, (None, None))


class TestKinds(Refusals):
    def test_each_form(self):
        told = [
            ("thing", THING), ("none", NONE), ("unit", UNIT), ("Row", name("Row")), ("Row'Row", name("Row'Row")),
            ("(thing)", THING), ("(((Row)))", name("Row")), ("(thing, unit)", pair(THING, UNIT)),
            ("thing | unit", either(THING, UNIT)), ("thing | unit | none", either(either(THING, UNIT), NONE)),
            ("thing | (unit | none)", either(THING, either(UNIT, NONE))),
            ("(thing | unit, none)", pair(either(THING, UNIT), NONE)),
            ("(thing, unit | none)", pair(THING, either(UNIT, NONE))),
            ("((thing, unit), none)", pair(pair(THING, UNIT), NONE)),
            ("(thing, (unit, none))", pair(THING, pair(UNIT, NONE))),
            ("(thing, unit) | (none, Row)", either(pair(THING, UNIT), pair(NONE, name("Row")))),
            ("((thing | unit) | (none))", either(either(THING, UNIT), NONE)),
            ("unit | (thing, Row)", ROW), ("unit|(thing,Row)", ROW), ("(unit)|((thing),(Row))", ROW),
            ("none | ((unit, Row) | (thing, Row'))", ROW_BY_THING)]
        for text, kind in told:
            self.assertEqual(read_kind(text), kind)

    def test_each_row_of_tokens(self):
        right = {row for many in range(1, 12) for row in reference.kind_texts(many)}
        self.looked_through(read_kind, right, ["thing", "Row", "(", ")", ",", "|", ";"], 5)
        self.looked_through(read_kind, right, ["5", "*", ":", "=", "left", "(", "thing", "bad"], 3)

    def test_wrong_tokens_in_longer_texts(self):
        picked = random.Random(5)
        right = {row for many in range(1, 14) for row in reference.kind_texts(many)}
        beginnings = {row[:at] for row in right for at in range(len(row) + 1)}
        rows = picked.sample(sorted(row for row in right if len(row) > 6 and len(row) < 10), 300)
        for row in rows:
            for at in range(len(row) + 1):
                wrong = [one for one in ["thing", "(", ")", ",", "|", ";", "5"] if row[:at] + (one,) not in beginnings]
                for one in wrong + ["Abcdefghi", "abcdefghi", "00", "-0", "\t"]:
                    more = {"Abcdefghi": 8, "abcdefghi": 8, "00": 1, "-0": 1}.get(one, 0)
                    between = [picked.choice([" ", "\n", "#)\n", " # x\n\n "]) for _ in range(len(row) + 2)]
                    text, places = laid_out(row[:at] + (one,) + row[at:], between)
                    self.refused(read_kind, text, place_in(text, places[at] + more))
                if row[:at] not in right:
                    text, _ = laid_out(row[:at], between[:at + 1])
                    self.refused(read_kind, text, end_of(text))

    def test_many_brackets(self):
        self.assertEqual(read_kind("(" * 100 + "thing" + ")" * 100), THING)
        self.refused(read_kind, "(" * 100 + "thing" + ")" * 99, (1, 205))
        self.refused(read_kind, "(" * 100 + "thing" + ")" * 101, (1, 206))
        self.refused(read_kind, "(" * 100, (1, 101))
        # More of them than Python could call functions within one another.
        self.assertEqual(read_kind("(" * 5000 + "thing" + ")" * 5000), THING)

    def test_too_deep(self):
        self.assertEqual(read_kind(" | ".join(["unit"] * 30)), nested(UNIT, lambda kind: either(kind, UNIT), 29))
        pairs = "(unit, " * 29 + "unit" + ")" * 29
        self.assertEqual(read_kind(pairs), nested(UNIT, lambda kind: pair(UNIT, kind), 29))
        for text in [" | ".join(["unit"] * 31), "(unit, " * 30 + "unit" + ")" * 30, "unit |" + "(" + pairs + ")",
                     "|".join(["unit"] * 3000), "|".join(["thing"] * 100000)]:
            with self.assertRaises(InvalidKind) as held:
                read_kind(text)
            self.assertIs(held.exception.given, text)

    def test_too_many_parts(self):
        def text_of(kind):
            return kind[0] if len(kind) == 1 else "(" + text_of(kind[1]) + "," + text_of(kind[2]) + ")"

        self.assertEqual(read_kind(text_of(wide_kind(1999))), wide_kind(1999))
        for kind in [wide_kind(2001), wide_kind(2003), pair(deep_kind(30), deep_kind(30))]:
            text = text_of(kind).replace("either", "pair")
            with self.assertRaises(InvalidKind) as held:
                read_kind(text)
            self.assertIs(held.exception.given, text)

    def test_what_is_too_deep_is_told_last(self):
        deep = " | ".join(["unit"] * 31)
        for text, place in [(deep + ")", (1, len(deep) + 1)), (deep + " |", (1, len(deep) + 3)),
                            (deep + "\n05", (2, 2)), ("(" + deep, (1, len(deep) + 2)), (deep + " unit", (1, len(deep) + 2))]:
            self.refused(read_kind, text, place)


class TestBooks(Refusals):
    def test_each_form(self):
        for text in ["", " ", "# none at all", "\n"]:
            self.assertEqual(read_book(text), ())
        self.assertEqual(read_book("Row = unit | (thing, Row);"), ROWS)
        self.assertEqual(read_book("Row=unit|(thing,Row);#\n"), ROWS)
        self.assertEqual(read_book("Twin = Box; Row = (Box, thing) | unit; Box = Row;"), BOXES)

    def test_pairs_in_any_order(self):
        lines = ["A = thing;", "A' = unit;", "A'B = none;", "A0 = (A,\n A);", "Aa = A';", "B = (((A0)));"]
        book = (("A", THING), ("A'", UNIT), ("A'B", NONE), ("A0", pair(name("A"), name("A"))),
                ("Aa", name("A'")), ("B", name("A0")))
        for row in itertools.permutations(lines):
            self.assertEqual(read_book(" ".join(row)), book)

    def test_each_row_of_tokens(self):
        right = {row for many in range(15) for row in reference.book_texts(many)}
        beginnings = {row[:at] for row in right for at in range(len(row) + 1)}
        alphabet = ["Row", "=", ";", "thing", "(", ")", ",", "|"]
        for many in range(6):
            for row in itertools.product(alphabet, repeat=many):
                text, places = laid_out(row, [""] + [" "] * many)
                wrong = [at for at in range(many) if row[:at + 1] not in beginnings]
                if wrong:
                    self.refused(read_book, text, place_in(text, places[wrong[0]]))
                elif row not in right:
                    self.refused(read_book, text, end_of(text))

    def test_refused_texts(self):
        for text, place in [
                ("Row", (1, 4)), ("Row =", (1, 6)), ("Row = ;", (1, 7)), ("Row = thing", (1, 12)),
                ("Row = thing\n", (2, 1)), ("Row = thing; ;", (1, 14)), ("Row = thing;\nRow", (2, 4)), ("row = thing;", (1, 1)),
                ("Row thing;", (1, 5)), ("thing", (1, 1)), ("5 = thing;", (1, 1)), ("Row : thing;", (1, 5)),
                ("Row = thing, unit;", (1, 12)), ("Row = (thing; unit);", (1, 13)), ("Row = thing;#\nAbcdefghi = thing;", (2, 9)),
                ("A = thing; B = unit", (1, 20)), ("Row = thing Row = thing;", (1, 13)), ("= thing;", (1, 1))]:
            self.refused(read_book, text, place)

    def wrong(self, text, index):
        with self.assertRaises(InvalidBook) as held:
            read_book(text)
        self.assertEqual(held.exception.index, index)

    def test_no_books(self):
        deep = " | ".join(["unit"] * 31)
        self.wrong("Row = Tree;", 0)
        self.wrong("B = Tree; A = unit;", 1)
        self.wrong("A = unit; A = thing;", 1)
        self.wrong("B = unit; A = unit; B = unit; C = X;", 2)
        self.wrong("A' = thing; A = thing;", 1)
        self.wrong("A' = unit;", 0)
        self.wrong("C = unit; B = " + deep + "; A = thing;", 1)
        self.wrong("B = unit; B = unit; A = " + deep + ";", 0)
        self.wrong("B = unit; A = X; B = unit;", 2)
        self.wrong("B = X; A' = thing; A = thing;", 2)

    def test_those_of_one_name_as_they_stand(self):
        # The first of both is a pair above the one ahead, whatever its kind; the second one is none.
        deep = " | ".join(["unit"] * 31)
        self.wrong("A = " + deep + "; A = unit;", 0)
        self.wrong("A = unit; A = " + deep + ";", 1)
        self.wrong("Z = unit; A = " + deep + "; A = unit;", 0)

    def test_eighty_pairs_and_eighty_one(self):
        lines = ["N" + str(at) + " = unit;" for at in range(81)]
        self.assertEqual(len(read_book(" ".join(reversed(lines[:80])))), 80)
        self.wrong(" ".join(lines), None)
        self.wrong("A = unit;" * 81, None)
        self.wrong("A = unit;" * 80, 1)
        self.wrong(" ".join(lines).replace("unit", "X"), None)

    def test_what_is_no_book_is_told_last(self):
        self.refused(read_book, "A = X; A = X; B", (1, 16))
        self.refused(read_book, "A = unit;" * 81 + "A", (1, 731))


class TestValues(Refusals):
    def reads(self, book, kind, told):
        for text, value in told:
            self.assertEqual(read_value(book, kind, text), value)

    def test_each_form(self):
        self.reads((), THING, [("5", 5), ("-17", -17), (" 0 ", 0)])
        self.reads((), UNIT, [("()", ()), ("( )", ()), ("(#\n)", ())])
        self.reads((), pair(THING, UNIT), [("(5, ())", ("pair", 5, ())), ("(5,())", ("pair", 5, ()))])
        self.reads((), either(THING, UNIT), [("left(5)", ("left", 5)), ("right (())", ("right", ()))])
        self.reads(ROWS, name("Row"), [
            ("left(())", LEAF), ("right((5, right((-7, left(())))))", ("right", ("pair", 5, ("right", ("pair", -7, LEAF)))))])
        self.reads(ROWS_BY_ALL, name("Row'"), [
            ("right(left(((), left(()))))", ("right", ("left", ("pair", (), LEAF))))])
        self.assertEqual(read_shape(ROWS, name("Row"), "right((*, left(())))"), ("right", ("pair", (), LEAF)))
        self.assertEqual(read_shape((), THING, "*"), ())
        self.assertEqual(read_shape((), UNIT, "()"), ())

    def test_spare_brackets_are_none_in_values(self):
        self.refused(lambda one: read_value((), THING, one), "(5)", (1, 1))
        self.refused(lambda one: read_value((), UNIT, one), "(())", (1, 2))
        self.refused(lambda one: read_value((), either(UNIT, UNIT), one), "left()", (1, 6))

    def test_each_row_of_tokens(self):
        kinds = [
            ((), THING), ((), UNIT), ((), NONE), ((), pair(UNIT, THING)), ((), either(THING, UNIT)),
            ((), either(NONE, THING)), ((), either(pair(THING, NONE), UNIT)), ((), either(UNIT, either(NONE, NONE))),
            ((), pair(THING, NONE)), ((), pair(NONE, THING)), ((), either(NONE, pair(UNIT, NONE))),
            (ROWS, name("Row")), (TREES, name("Tree")), (BOXES, name("Twin")), (LOST, name("Some")),
            (LOST, name("Lost")), (LOST, either(UNIT, name("Lost"))), (ROUND, name("A")), (ROUND, name("C")),
            (ROUND, pair(THING, name("B"))), (ROWS_BY_ALL, name("Row'"))]
        for book, kind in kinds:
            for call, leaf in [(read_value, "5"), (read_shape, "*")]:
                self.looked_through(
                    lambda text: call(book, kind, text), reference.value_texts(book, kind, 5, leaf),
                    ["5", "*", "left", "right", "(", ")", ","], 4)

    def test_wrong_tokens_in_longer_texts(self):
        picked = random.Random(7)
        for book, kind in SAMPLES:
            for call, leaf in [(read_value, "5"), (read_shape, "*")]:
                told = reference.value_texts(book, kind, 24, leaf)
                right = {row for row in told if len(row) < 24}
                beginnings = {row[:at] for row in told for at in range(len(row) + 1)}
                for row in sorted(right, key=len)[:12]:
                    self.wrong_tokens(lambda text: call(book, kind, text), row, right, beginnings, picked)

    def wrong_tokens(self, call, row, right, beginnings, picked):
        """Refused where a wrong token stands, or a bad sign, or where the text ends too early."""
        for at in range(len(row) + 1):
            between = [picked.choice([" ", "\n", "#5\n", " # )\n\n "]) for _ in range(len(row) + 2)]
            for one in ["5", "*", "left", "right", "(", ")", ",", "Row", "thing", "|", "05", "-0", "abcdefghi", "_"]:
                if row[:at] + (one,) not in beginnings:
                    text, places = laid_out(row[:at] + (one,) + row[at:], between)
                    more = {"05": 1, "-0": 1, "abcdefghi": 8}.get(one, 0)
                    self.refused(call, text, place_in(text, places[at] + more))
            if row[:at] not in right:
                text, _ = laid_out(row[:at], between)
                self.refused(call, text, end_of(text))

    def test_each_reads_its_own_leaves(self):
        for call, own, other in [(read_value, "5", "*"), (read_shape, "*", "5")]:
            text = "right((" + own + ", right((" + other + ", left(())))))"
            self.refused(lambda one: call(ROWS, ROW, one), text, (1, 18))

    def test_kinds_without_values(self):
        kinds = [
            ((), NONE), ((), pair(UNIT, NONE)), ((), either(NONE, pair(NONE, UNIT))), (LOST, name("Lost")),
            (ROUND, name("A")), (ROUND, pair(name("D"), name("B"))), (ROUND, either(name("A"), NONE))]
        for book, kind in kinds:
            for call in [read_value, read_shape]:
                for text, place in [
                        ("", (1, 1)), ("\n # x", (2, 5)), ("()", (1, 1)), (" 5", (1, 2)), ("#\nleft(())", (2, 1)),
                        ("((), 5)", (1, 1)), ("none", (1, 1)), ("abcdefghi", (1, 9)), ("\n-0", (2, 2)), ("A", (1, 1))]:
                    self.refused(lambda one: call(book, kind, one), text, place)

    def test_eithers_with_one_side_that_has_a_value(self):
        for other in [NONE, pair(THING, NONE), name("A"), either(NONE, name("B")), pair(name("C"), name("A"))]:
            for call in [read_value, read_shape]:
                self.assertEqual(call(ROUND, either(other, UNIT), "right(())"), ("right", ()))
                self.assertEqual(call(ROUND, either(UNIT, other), "left(())"), ("left", ()))
                self.refused(lambda one: call(ROUND, either(other, UNIT), one), " left(())", (1, 2))
                self.refused(lambda one: call(ROUND, either(UNIT, other), one), "\nright(())", (2, 1))
                deeper = pair(UNIT, either(UNIT, either(other, UNIT)))
                self.refused(lambda one: call(ROUND, deeper, one), "((), right(left(())))", (1, 12))

    def test_tall_texts(self):
        for times in [10, 97, 150, 280]:
            book = (("Idle", either(UNIT, name("Idle"))),)
            text = "right(" * times + "left(())" + ")" * times
            value = nested(LEAF, lambda told: ("right", told), times)
            self.assertEqual(read_value(book, name("Idle"), text), value)
            self.refused(lambda one: read_value(book, name("Idle"), one), text + ")", (1, len(text) + 1))
            self.refused(lambda one: read_value(book, name("Idle"), one), text[:-1], (1, len(text)))


class TestCalls(unittest.TestCase):
    def test_by_the_told_names(self):
        self.assertEqual(read_kind(text="thing"), THING)
        self.assertEqual(read_book(text="A = thing;"), (("A", THING),))
        self.assertEqual(read_value(text="5", kind=THING, book=()), 5)
        self.assertEqual(read_shape(text="*", kind=THING, book=()), ())

    def test_they_are_defined_in_their_file(self):
        for function in [read_kind, read_book, read_value, read_shape]:
            self.assertEqual(function.__module__, module.__name__)

    def test_a_second_call_tells_the_same(self):
        for _ in range(2):
            self.assertEqual(read_value(ROWS, ROW, "left(())"), LEAF)


if __name__ == "__main__":
    unittest.main()
