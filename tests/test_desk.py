import itertools
import unittest

from holekinds import desk as module
from holekinds.books import is_hole
from holekinds.counts import counts, is_fair, number_of, shape
from holekinds.desk import Desk
from holekinds.errors import InvalidLine
from holekinds.holes import book_by, fill, kind_by, mark, size, spots, things
from holekinds.text import show_book, show_kind, show_shape, show_value
from tests import reference
from tests.samples import (
    LEAF, ROUND, ROWS, ROWS_BY_ALL, SAMPLES, THING, TREES, OddText, deep_kind, either, holes_of, name,
    nested, odd_things, pair, row_of, wide_kind)

ROW_BOOK = "book Row = unit | (thing, Row);"
ROW_EDIT = "edit Row by thing: right((5, right((7, left(())))))"
ALONE = [
    "next", "former", "first", "last", "out", "in", "undo", "here", "value", "shape", "context", "spots", "number"]
WITH_REST = ["book", "edit", "put", "counts", "fair", "kind"]


class TestDesk(unittest.TestCase):
    def setUp(self):
        self.desk = Desk()

    def says(self, line, *answer):
        self.assertEqual(self.desk.say(line), answer, line)

    def refuses(self, line, *answer):
        """The line is answered so, and nothing is changed by it."""
        before = self.all_told()
        self.says(line, *answer)
        self.assertEqual(self.all_told(), before, line)

    def all_told(self):
        """All that the desk tells without a change: what is edited, and all names' kinds."""
        return [self.desk.edited(), self.desk.book, *[self.desk.say(line) for line in ALONE[7:] + ["kind Row"]]]

    def edit(self, line=ROW_EDIT, book=ROW_BOOK):
        self.desk.say(book)
        self.desk.say(line)


class TestOrders(TestDesk):
    def test_a_new_desk(self):
        self.assertIsNone(self.desk.edited())
        self.says("kind Row", "no name Row")
        self.says("fair thing", "fair")
        self.says("edit thing by thing: 5", "whole: 5")
        self.assertEqual(self.desk.edited(), (THING, THING, (), 5))

    def test_desks_by_themselves(self):
        self.edit()
        other = Desk()
        self.assertIsNone(other.edited())
        self.assertEqual(other.say("kind Row"), ("no name Row",))
        self.says("here", "1.1: 5")

    def test_books(self):
        told = [
            ("book ", "0 names"), ("book # nothing", "0 names"), ("book A = unit;", "1 name"),
            ("book A = unit; B = A;", "2 names"), ("book B = A; A = unit;", "2 names"), ("book \n\n", "0 names"),
            ("book Row = unit | (thing, Row); Row' = none | ((unit, Row) | (thing, Row'));", "2 names")]
        for line, answer in told:
            self.says(line, answer)
        self.assertEqual(self.desk.book, (("Row", ROWS[0][1]), ("Row'", reference.kind_by(ROWS[0][1], THING))))
        many = "".join(f"N{at:02} = thing; " for at in reversed(range(80)))
        self.says("book " + many, "80 names")
        self.says("kind N79", "thing")
        self.refuses("book " + many + "M = thing;", "no book")
        self.refuses("book " + many * 2, "no book")
        self.refuses("book " + many + "M = Lost;", "no book")
        self.refuses("book " + many + "M = thing", f"bad text at 1 {len(many) + 10}")

    def test_what_is_no_book(self):
        self.edit()
        deep = show_kind(nested(("unit",), lambda kind: ("pair", kind, kind), 3))
        too_deep = "(" * 30 + "thing" + ", unit)" * 30
        too_wide = show_kind(wide_kind(1999)) + "| unit"
        told = [
            ("A = B;", "A"), ("B = unit; A = C;", "A"), ("A = unit; B = C; C = D;", "C"), ("A = unit; A = unit;", "A"),
            ("B = unit; A = unit; A = thing; B = none;", "A"), ("A' = unit; A = thing; B = C;", "B"),
            ("A' = none; A = thing;", "A'"), ("A'B = none; B = unit; A = unit; A' = thing;", "A'"),
            ("A = " + too_deep + ";", "A"), ("B = C; A = " + too_wide + ";", "A"), ("A'B = unit;", "A'B"),
            ("A = " + deep + "; B = A'; A' = B;", "A'")]
        for rest, index in told:
            self.refuses("book " + rest, "no book at " + index)
            # Behind all: what is refused of the text comes first.
            self.refuses("book " + rest + " x", f"bad text at 1 {len(rest) + 2}")
        self.says("here", "1.1: 5")

    def test_a_book_that_is_taken_ends_what_was_edited(self):
        for line in ["book ", ROW_BOOK]:
            self.edit()
            self.says("put 6", "1.1: 6")
            self.assertIsNotNone(self.desk.edited())
            self.desk.say(line)
            self.assertIsNone(self.desk.edited())
            for order in ALONE:
                self.says(order, "nothing is edited")

    def test_editing(self):
        self.says(ROW_BOOK, "1 name")
        self.says(ROW_EDIT, "1.1: 5")
        row = name("Row")
        self.assertEqual(self.desk.edited(), (row, THING, *mark(ROWS, row, THING, row_of(5, 7), (1, 1))))
        self.says("edit Row by Row: left(())", "whole: left(())")
        self.assertEqual(self.desk.edited(), (row, row, LEAF, LEAF))
        self.says("edit (Row, thing) by (Row): (right((5, left(()))), 6)", "1: right((5, left(())))")
        self.says("edit Row | thing by ((thing)) : right(-5)", "1: -5")
        self.assertEqual(self.desk.edited(), (either(row, THING), THING, ("right", ()), -5))
        self.says("edit thing by thing:0", "whole: 0")

    def test_an_edit_has_nothing_to_undo(self):
        self.edit()
        self.says("next", "1.2.1.1: 7")
        self.says(ROW_EDIT, "1.1: 5")
        self.says("undo", "nothing to undo")

    def test_what_is_not_edited(self):
        self.edit()
        told = [
            ("edit Lost by thing: 5", "no kind"), ("edit Row' by thing: 5", "no kind"), ("edit Row | Lost", "no kind"),
            ("edit (Row, Lost) $", "no kind"), ("edit Lost", "no kind"), ("edit Lost Row", "no kind"),
            ("edit Lost )", "no kind"), ("edit Lost |", "bad text at 1 7"), ("edit Lost | $", "bad text at 1 8"),
            ("edit (Lost, thing", "bad text at 1 13"), ("edit Lost#|\n$", "no kind"),
            ("edit Row by Lost : 5", "no hole"), ("edit Row by unit : 5", "no hole"), ("edit Row by none", "no hole"),
            ("edit Row by Row' : 5", "no hole"), ("edit Row by (thing, thing) $", "no hole"),
            ("edit Row by (Row | Row) x", "no hole"), ("edit Row by unit | thing", "no hole"),
            ("edit Row by thing | unit : 5", "bad text at 1 14"), ("edit Row by thing", "bad text at 1 13"),
            ("edit Row by (thing : 5", "bad text at 1 15"), ("edit Row by", "bad text at 1 7"),
            ("edit Row", "bad text at 1 4"), ("edit Row of thing: 5", "bad text at 1 5"), ("edit ", "bad text at 1 1"),
            ("edit Row by thing: left(())", "no spot"), ("edit unit by thing: ()", "no spot"),
            ("edit Row by thing: left(()) left(())", "bad text at 1 24"), ("edit Row by thing: 5", "bad text at 1 15"),
            ("edit Row by thing: left(()", "bad text at 1 22"), ("edit Row by thing: ", "bad text at 1 15"),
            ("edit none by thing: 5", "bad text at 1 16"), ("edit by by thing: 5", "bad text at 1 1"),
            ("edit Row by thing: right((5, left(()))) $", "bad text at 1 36"), ("edit Row, by", "bad text at 1 4")]
        for line, answer in told:
            self.refuses(line, answer)

    def test_kinds_that_are_too_great(self):
        self.edit()
        deep, wide = "(" * 30 + "thing" + ", unit)" * 30, show_kind(wide_kind(1999)) + "| unit"
        for rest in [deep, wide, deep + " $", deep + " by thing : 5"]:
            for order in ["edit ", "counts ", "fair "]:
                self.refuses(order + rest, "no kind")
        for rest in [deep, wide]:
            self.refuses(f"edit Row by ({rest}) $", "no hole")
        good = show_kind(deep_kind(30, THING))
        self.says("fair " + good, "fair")
        self.says("fair " + show_kind(wide_kind(1999, THING)), "fair")

    def test_deeds(self):
        self.edit("edit Row by Row: right((5, right((7, left(())))))")
        told = [
            ("former", "nowhere"), ("out", "nowhere"), ("undo", "nothing to undo"), ("next", "1.2: right((7, left(())))"),
            ("in", "1.2.1.2: left(())"), ("in", "nowhere"), ("next", "nowhere"), ("out", "1.2: right((7, left(())))"),
            ("last", "1.2.1.2: left(())"), ("last", "1.2.1.2: left(())"), ("first", "whole: right((5, right((7, left(())))))"),
            ("first", "whole: right((5, right((7, left(())))))"), ("undo", "whole: right((5, right((7, left(())))))"),
            ("undo", "1.2.1.2: left(())"), ("undo", "1.2.1.2: left(())"), ("undo", "1.2: right((7, left(())))"),
            ("put right((9, left(())))", "1.2: right((9, left(())))"), ("put left(())", "1.2: left(())"),
            ("value", "right((5, left(())))"), ("undo", "1.2: right((9, left(())))"), ("next", "1.2.1.2: left(())"),
            ("former", "1.2: right((9, left(())))"), ("here", "1.2: right((9, left(())))"),
            ("value", "right((5, right((9, left(())))))"), ("spots", "whole", "1.2", "1.2.1.2")]
        for line, *answer in told:
            self.says(line, *answer)

    def test_more_undos_than_deeds(self):
        self.edit()
        for line in ["next", "put 8", "first", "put 5", "last"]:
            self.desk.say(line)
        for answer in ["1.1: 5", "1.1: 5", "1.2.1.1: 8", "1.2.1.1: 7", "1.1: 5", "nothing to undo", "nothing to undo"]:
            self.says("undo", answer)
        self.says("next", "1.2.1.1: 7")
        self.says("next", "nowhere")
        self.says("undo", "1.1: 5")

    def test_more_than_two_hundred_deeds(self):
        self.edit()
        for number in range(300):
            self.says(f"put {number}", f"1.1: {number}")
        for number in reversed(range(299)):
            self.says("undo", f"1.1: {number}")
        self.says("undo", "1.1: 5")
        self.says("undo", "nothing to undo")

    def test_puts(self):
        self.edit()
        told = [
            ("put 9", "1.1: 9"), ("put -9", "1.1: -9"), ("put   9 # nine", "1.1: 9"), ("put \n\n7\n", "1.1: 7"),
            ("put " + "9" * 400, "1.1: " + "9" * 400)]
        for line, answer in told:
            self.says(line, answer)
        for line, answer in [
                ("put ", "bad text at 1 1"), ("put  ", "bad text at 1 2"), ("put x", "bad text at 1 1"),
                ("put 9 9", "bad text at 1 3"), ("put left(())", "bad text at 1 1"), ("put 07", "bad text at 1 2"),
                ("put -0", "bad text at 1 2"), ("put " + "9" * 401, "bad text at 1 401"), ("put \n\n x", "bad text at 3 2"),
                ("put 9\n\n $", "bad text at 3 2"), ("put *", "bad text at 1 1"), ("put # 9", "bad text at 1 4")]:
            self.refuses(line, answer)

    def test_what_is_asked(self):
        self.edit()
        self.says("next", "1.2.1.1: 7")
        told = [
            ("here", "1.2.1.1: 7"), ("value", "right((5, right((7, left(())))))"),
            ("shape", "right((*, right((*, left(())))))"), ("spots", "1.1", "1.2.1.1"),
            ("context", "right(right((5, right(left(((), left(())))))))"), ("number", "things 2, size 3, number 0")]
        for line, *answer in told:
            self.refuses(line, *answer)

    def test_numbers_that_are_too_great(self):
        for many, answer in [(19, "things 19, size 20, number 0"), (20, "too great"), (21, "too great")]:
            self.edit("edit Row by thing: " + show_value(ROWS, name("Row"), row_of(*range(many))))
            self.refuses("number", answer)
        twenty = ", ".join(["(thing"] * 20) + ", unit" + ")" * 20
        value = ", ".join(["(1"] * 20) + ", ()" + ")" * 20
        self.says(f"edit {twenty} by thing: {value}", "1: 1")
        self.says("number", "things 20, size 0, number 0")
        self.says(f"edit (thing, {twenty}) by thing: (1, {value})", "1: 1")
        self.says("number", "too great")

    def test_counts(self):
        self.edit()
        told = [
            ("counts Row: 2, 3", "1"), ("counts Row: 2, 4", "0"), ("counts Row | Row :0,1", "2"), ("counts thing: 1, 0", "1"),
            ("counts Row: 20, 20", "0"), ("counts Row: 0, 21", "no such numbers"), ("counts Row: 21, 0", "no such numbers"),
            ("counts Row: -1, 0", "no such numbers"), ("counts Row: 0, -20", "no such numbers"),
            ("counts Row: 2, " + "9" * 400, "no such numbers"), ("counts Row: 21, 21 x", "bad text at 1 13"),
            ("counts Row: 2", "bad text at 1 7"), ("counts Row: 2 3", "bad text at 1 8"), ("counts Row 2, 3", "bad text at 1 5"),
            ("counts Row: 2,", "bad text at 1 8"), ("counts Lost: 2, 3", "no kind"), ("counts Lost 2 3", "no kind"),
            ("counts Lost | : 2", "bad text at 1 8"), ("counts Row: x, 3", "bad text at 1 6"), ("counts ", "bad text at 1 1"),
            ("counts Row: 2, 3;", "bad text at 1 10"), ("counts Row: 2, 03", "bad text at 1 10")]
        for line, answer in told:
            self.refuses(line, answer)

    def test_fairness(self):
        self.says("book Idle = unit | Idle; Row = unit | (thing, Row);", "2 names")
        told = [
            ("fair Row", "fair"), ("fair Idle", "not fair"), ("fair Row | Idle", "not fair"), ("fair (none, Idle)", "fair"),
            ("fair Row'", "no kind"), ("fair Lost )", "no kind"), ("fair Row )", "bad text at 1 5"), ("fair ", "bad text at 1 1"),
            ("fair Row Row", "bad text at 1 5"), ("fair (Row", "bad text at 1 5"), ("fair Lost |", "bad text at 1 7"),
            ("fair Lost Idle", "no kind"), ("fair thing", "fair"), ("fair Rowrowrowr", "bad text at 1 9")]
        for line, answer in told:
            self.says(line, answer)

    def test_kinds(self):
        self.says("book " + show_book(ROWS_BY_ALL), "7 names")
        for one, kind in ROWS_BY_ALL:
            self.says("kind " + one, show_kind(kind))
        told = [
            ("kind Lost", "no name Lost"), ("kind Row'Lost", "no name Row'Lost"), ("kind Lost Row", "bad text at 1 6"),
            ("kind row", "bad text at 1 1"), ("kind ", "bad text at 1 1"), ("kind thing", "bad text at 1 1"),
            ("kind Row;", "bad text at 1 4"), ("kind  Row # that", show_kind(ROWS[0][1])), ("kind (Row)", "bad text at 1 1"),
            ("kind Row\n\n\n !", "bad text at 4 2"), ("kind Lost $", "bad text at 1 6")]
        for line, answer in told:
            self.says(line, answer)


class TestLines(TestDesk):
    def test_no_such_line(self):
        lines = [
            "", " ", "Next", "NEXT", "next ", " next", "next\n", "next x", "nexts", "nex", "book", "edit", "put", "counts",
            "fair", "kind", "book\n", "fair\tthing", "fair\nthing", " fair thing", "undo ", "here #", "spots ", "value x",
            "?", "next next", "Row", "thing", "#", "# next", "\n", "book: A", "put9", "number 1", "shape*", "undo 2", "look"]
        for edits in [False, True]:
            if edits:
                self.edit()
            for line in lines:
                self.refuses(line, "no such line")

    def test_orders_of_both_sorts(self):
        for order in WITH_REST:
            self.says(order, "no such line")
        for order in ALONE:
            self.says(order + " ", "no such line")
            self.says(order, "nothing is edited")

    def test_nothing_is_edited_comes_ahead_of_all_else_but_no_such_line(self):
        self.says(ROW_BOOK, "1 name")
        for line in ALONE + ["put 5", "put ", "put $", "put x x"]:
            self.refuses(line, "nothing is edited")
        self.refuses("put", "no such line")
        self.refuses("next 5", "no such line")

    def test_blanks_remarks_and_ends_of_lines_in_the_rest(self):
        self.says("book \n # a row\n Row=unit|(thing,Row)\n;# so\n", "1 name")
        self.says("edit   Row\nby # the\nthing\n:\nright( (5,left( ( ) )) )", "1.1: 5")
        self.says("counts Row#,\n:1 ,\n2", "1")
        self.says("edit Row by\nthing : # ends", "bad text at 2 15")
        self.says("edit Row\n\n  of thing : 5", "bad text at 3 3")
        self.says("edit \n\n\n", "bad text at 4 1")
        self.says("edit Rowby thing : 5", "no kind")
        self.says("edit Row bything : 5", "bad text at 1 5")
        self.says("edit Row byby : 5", "bad text at 1 5")

    def test_texts_that_go_wrong_at_each_token(self):
        tokens = ["Row", "by", "thing", ":", "right", "(", "(", "5", ",", "left", "(", "(", ")", ")", ")", ")"]
        self.says(ROW_BOOK, "1 name")
        for at in range(len(tokens)):
            ahead = " ".join(tokens[:at]) + (" " if at else "")
            for wrong in ["$", ";", "abcdefghi", "007"]:
                column = len(ahead) + 1 + (8 if wrong == "abcdefghi" else 1 if wrong == "007" else 0)
                answer = f"bad text at 1 {column}"
                self.refuses("edit " + ahead + wrong + " x", answer)
            # Where it ends too early: behind its last sign.
            self.refuses("edit " + ahead, f"bad text at 1 {len(ahead) + 1}")
        self.says("edit " + " ".join(tokens), "1.1: 5")
        self.refuses("edit " + " ".join(tokens) + " )", f"bad text at 1 {len(' '.join(tokens)) + 2}")

    def test_no_texts(self):
        self.edit()
        before = self.all_told()
        for thing in odd_things() + [b"next", ["next"], None, ("next",)]:
            if type(thing) is not str:
                with self.assertRaises(InvalidLine) as held:
                    self.desk.say(thing)
                self.assertIs(held.exception.given, thing)
        with self.assertRaises(InvalidLine):
            self.desk.say(OddText("next"))
        with self.assertRaises(InvalidLine):
            self.desk.say(line=None)
        self.assertEqual(self.all_told(), before)
        for thing in odd_things():
            if type(thing) is str:
                self.refuses(thing, "no such line")

    def test_by_the_told_names(self):
        self.assertEqual(self.desk.say(line="fair thing"), ("fair",))
        self.assertEqual(Desk.__module__, module.__name__)
        self.assertLessEqual({"say", "edited"}, set(vars(Desk)))


class TestAgreement(TestDesk):
    def test_each_sample_is_shown_and_led_as_told(self):
        for book, kind in SAMPLES:
            for hole in holes_of(book):
                for value in reference.values(book, kind, 2, 3)[-2:]:
                    self.one_value(book, kind, hole, value)

    def one_value(self, book, kind, hole, value):
        self.desk.say("book " + show_book(book))
        line = f"edit {show_kind(kind)} by {show_kind(hole)}: {show_value(book, kind, value)}"
        told = spots(book, kind, hole, value)
        if not told:
            self.refuses(line, "no spot")
            return
        path, kept = told[0], []
        self.says(line, self.place(book, kind, hole, value, path))
        parts = [mark(book, kind, hole, value, path)[1], *reference.values(book, hole, 1, 3)[-2:]]
        deeds = ["next", "in", "next", "put", "last", "former", "undo", "out", "first", "put", "next", "undo", "undo", "former"]
        for at, word in enumerate(deeds):
            deed, line = (word,), word
            if word == "put":
                deed = (word, parts[at % len(parts)])
                line = "put " + show_value(book, hole, deed[1])
            kept.append(deed)
            value_now, path, led = reference.behind_deeds(book, kind, hole, value, told[0], kept)
            answer = self.place(book, kind, hole, value_now, path)
            if not led[-1]:
                answer = "nothing to undo" if word == "undo" else "nowhere"
            self.says(line, answer)
            self.asked(book, kind, hole, value_now, path)

    def place(self, book, kind, hole, value, path):
        part = mark(book, kind, hole, value, path)[1]
        return f"{shown(path)}: {show_value(book, hole, part)}"

    def asked(self, book, kind, hole, value, path):
        context, part = mark(book, kind, hole, value, path)
        self.assertEqual(self.desk.edited(), (kind, hole, context, part))
        self.says("here", self.place(book, kind, hole, value, path))
        self.says("value", show_value(book, kind, value))
        self.says("shape", show_shape(book, kind, shape(book, kind, value)))
        self.says("context", show_value(book_by(book, hole), kind_by(book, kind, hole), context))
        self.says("spots", *[shown(one) for one in spots(book, kind, hole, value)])
        there, at, number = number_of(book, kind, shape(book, kind, value))
        self.says("number", f"things {there}, size {at}, number {number}")
        self.assertEqual((there, at), (things(book, kind, value), size(book, kind, value)))
        self.assertEqual(fill(book, kind, hole, context, part), value)

    def test_counts_and_fairness(self):
        for book, kind in SAMPLES:
            self.desk.say("book " + show_book(book))
            for there, at in itertools.product([0, 1, 3, 20], [0, 1, 4, 20]):
                self.says(f"counts {show_kind(kind)} : {there} , {at}", str(counts(book, kind, there, at)))
            self.says("fair " + show_kind(kind), "fair" if is_fair(book, kind) else "not fair")

    def test_holes_are_singles(self):
        self.desk.say("book " + show_book(TREES))
        for text, hole in [("thing", THING), ("(thing)", THING), ("Tree", name("Tree")), ("((Tree))", name("Tree"))]:
            self.assertTrue(is_hole(TREES, hole))
            self.desk.say(f"edit Tree by {text} : right((left(()), (5, left(()))))")
            self.assertEqual(self.desk.edited()[1], hole)
        self.desk.say("book " + show_book(ROUND))
        self.says("edit (C, thing) by A : (right(((), ())), 5)", "no spot")
        self.says("edit A by A : 5", "bad text at 1 10")
        self.assertEqual(self.desk.edited(), None)
        self.says("edit pair by A", "bad text at 1 1")
        self.says("edit (C, thing) by D : (right(((), ())), 5)", "1.1.1: ()")
        self.assertEqual(self.desk.edited()[0], pair(name("C"), THING))


def shown(path):
    return "whole" if path == () else ".".join(str(one) for one in path)


if __name__ == "__main__":
    unittest.main()
