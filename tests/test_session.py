"""The sessions of examples in the interface, as they stand there, and those of README.md."""

import doctest
import os
import unittest

from holekinds import errors

SESSION = """
>>> from holekinds.counts import counts, is_fair, number_of, shape, shape_of, shapes
>>> from holekinds.holes import book_by, fill, kind_by, mark, size, spot_of, spots, things
>>> thing, unit, row, end = ("thing",), ("unit",), ("name", "Row"), ("left", ())
>>> book = (("Row", ("either", unit, ("pair", thing, row))),)
>>> value = ("right", ("pair", 5, ("right", ("pair", 7, end))))
>>> [spots(book, row, thing, value), spots(book, row, row, value), size(book, row, value), things(book, row, value)]
[((1, 1), (1, 2, 1, 1)), ((), (1, 2), (1, 2, 1, 2)), 3, 2]
>>> context, part = mark(book, row, thing, value, (1, 2, 1, 1))
>>> [context, part, fill(book, row, thing, context, 9), spot_of(book, row, thing, context)]
[('right', ('right', ('pair', 5, ('right', ('left', ('pair', (), ('left', ()))))))), 7, ('right', ('pair', 5, ('right', ('pair', 9, ('left', ()))))), (1, 2, 1, 1)]
>>> mark(book, row, row, value, (1, 2))
(('right', ('right', ('right', ('pair', 5, ('left', ()))))), ('right', ('pair', 7, ('left', ()))))
>>> raised(mark, book, row, thing, value, (2,))
NoSpot(given=(2,))
>>> [kind_by(book, row, thing), dict(book_by(book, thing))["Row'"]]
[('name', "Row'"), ('either', ('none',), ('either', ('pair', ('unit',), ('name', 'Row')), ('pair', ('thing',), ('name', "Row'"))))]
>>> [counts(book, row, 2, 3), counts(book, row, 2, 4), counts(book_by(book, thing), kind_by(book, row, thing), 1, 3)]
[1, 0, 2]
>>> tree = ("name", "Tree")
>>> wood = (("Tree", ("either", unit, ("pair", thing, ("pair", tree, tree)))),)
>>> [counts(wood, tree, 3, 7), len(shapes(wood, tree, 3, 7)), number_of(wood, tree, shape_of(wood, tree, 3, 7, 4)), shape(book, row, ("right", ("pair", 8, end)))]
[5, 5, (3, 7, 4), ('right', ('pair', (), ('left', ())))]
>>> loop = ("name", "Loop")
>>> [is_fair(book, row), is_fair((("Loop", ("either", unit, loop)),), loop), is_fair((("Loop", ("pair", unit, loop)),), loop)]
[True, False, True]
>>> from holekinds.cursors import behind_deeds, context_within, cursors, first_within, former_one, next_one, out_of
>>> thing, unit = ("thing",), ("unit",)
>>> trees = (("Tree", ("either", unit, ("pair", ("name", "Tree"), ("pair", thing, ("name", "Tree"))))),)
>>> tree, leaf = ("name", "Tree"), ("left", ())
>>> small = ("right", ("pair", leaf, ("pair", 1, leaf)))
>>> two = ("right", ("pair", small, ("pair", 2, leaf)))
>>> [len(cursors(trees, tree, thing, two)), len(cursors(trees, tree, tree, two)), [part for context, part in cursors(trees, tree, thing, two)]]
[2, 5, [1, 2]]
>>> whole = cursors(trees, tree, tree, two)[0]
>>> [whole == (("left", ()), two), next_one(trees, tree, tree, *whole)[1] == small, former_one(trees, tree, tree, *whole), out_of(trees, tree, tree, *next_one(trees, tree, tree, *whole)) == whole]
[True, True, None, True]
>>> below = first_within(trees, tree, tree, *whole)
>>> [below == next_one(trees, tree, tree, *whole), below[0]]
[True, ('right', ('right', ('left', ('pair', ('left', ()), ('pair', 2, ('left', ()))))))]
>>> [behind_deeds(trees, tree, tree, *whole, (("in",), ("put", leaf), ("out",)))[1] == ("right", ("pair", leaf, ("pair", 2, leaf))), behind_deeds(trees, tree, tree, *whole, (("in",), ("put", leaf), ("undo",), ("former",))) == whole]
[True, True]
>>> context_within(trees, tree, tree, below[0], ("left", ())) == below[0]
True
>>> raised(next_one, trees, tree, thing, (), 1)
InvalidValue(given=())
>>> from holekinds.twoholes import fill_two, mark_two, spots_of_two, turned_about
>>> pair = ("pair", thing, thing)
>>> there = mark_two((), pair, thing, thing, ("pair", 5, 6), (1,), (2,))
>>> [there, turned_about((), pair, thing, thing, there[0])]
[(('left', ('right', ('pair', (), ()))), 5, 6), ('right', ('left', ('pair', (), ())))]
>>> [spots_of_two((), pair, thing, thing, there[0]), fill_two((), pair, thing, thing, there[0], 8, 9)]
[((1,), (2,)), ('pair', 8, 9)]
>>> raised(mark_two, trees, tree, tree, thing, two, (), (1, 2, 1))
NotApart(given=(1, 2, 1))
>>> from holekinds.folds import fold, fold_around, fold_of_part, is_algebra, is_rule
>>> own, total = ("answer", 1, 0), ("take", 1, 0)
>>> sums = (("Tree", ("case", ("number", 0), ("plus", own, ("plus", total, own)))),)
>>> heights = (("Tree", ("case", ("number", 0), ("greater", ("answer", 1, 1), ("greater", ("take", 0, 0), ("answer", 1, 1))))),)
>>> [fold(trees, sums, tree, own, two), fold(trees, heights, tree, own, two), fold(trees, sums, tree, ("answer", 10, 1), two), is_algebra(trees, sums), is_rule(pair, ("plus", total, own))]
[3, 2, 31, True, False]
>>> [fold_of_part(trees, sums, tree, small), fold_around(trees, sums, tree, own, tree, below[0], 1), fold_around(trees, sums, tree, own, tree, below[0], 40)]
[1, 3, 42]
>>> from holekinds.loops import end_of, loop, rounds_of, state
>>> [loop((), (), pair, ("less", total, total), ("pair", 5, 6)), state((), (), pair, ("less", total, total), ("pair", 5, 6), 3)]
[(-1, 5), (('value', ('thing',), ('take', 1, 0), 6), (('ahead', 'less', 5),))]
>>> [loop(trees, sums, tree, own, two), rounds_of(trees, tree, two), [end_of(trees, sums, state(trees, sums, tree, own, two, many)) for many in (0, 7, 20, 37)]]
[(3, 37), 37, [3, 3, 3, 3]]
>>> from holekinds.certificates import certify_counts, certify_finite, certify_folds, certify_loop, certify_mark, certify_number, certify_spot
>>> from holekinds.checker import accepts
>>> from holekinds.desk import Desk
>>> desk = Desk()
>>> [desk.say("edit Row by thing: left(())"), desk.say("book Row = unit | (thing, Row);"), desk.say("edit Row by thing: right((5, right((7, left(())))))"), desk.say("next")]
[('no kind',), ('1 name',), ('1.1: 5',), ('1.2.1.1: 7',)]
>>> [desk.say("put 9"), desk.say("value"), desk.say("context"), desk.say("shape")]
[('1.2.1.1: 9',), ('right((5, right((9, left(())))))',), ('right(right((5, right(left(((), left(())))))))',), ('right((*, right((*, left(())))))',)]
>>> [desk.say("next"), desk.say("undo"), desk.say("spots"), desk.say("number"), desk.say("counts Row: 2, 3"), desk.say("fair Row'"), desk.say("put x"), desk.say("Next")]
[('nowhere',), ('1.2.1.1: 7',), ('1.1', '1.2.1.1'), ('things 2, size 3, number 0',), ('1',), ('no kind',), ('bad text at 1 1',), ('no such line',)]
>>> unit, idle = ("unit",), (("Idle", ("either", ("thing",), ("name", "Idle"))),)
>>> claim, paper = certify_finite(idle, ("name", "Idle"))
>>> [claim[0], accepts(claim, paper), accepts(claim, ("Idle", ("left", ()), ("right", ("right", ("left", ()))), ("left", ()))), accepts(("finite", claim[1], claim[2]), ())]
['endless', True, True, False]
>>> done = certify_loop((), ("pair", unit, unit), ("pair", (), ()))
>>> [done[0][4], accepts(done[0], done[1]), accepts(("loops", (), unit, (), 2), ()), accepts(None, ())]
[5, True, False, False]
"""
README = os.path.join(os.path.dirname(os.path.dirname(os.path.abspath(__file__))), "README.md")


class Shown:
    """What a call raised, shown as the document shows it."""

    def __init__(self, text):
        self.text = text

    def __repr__(self):
        return self.text


def raised(function, *arguments):
    try:
        return function(*arguments)
    except errors.HoleError as error:
        told = ", ".join(f"{one}={worth!r}" for one, worth in vars(error).items())
        return Shown(f"{type(error).__name__}({told})")


class TestSession(unittest.TestCase):
    def runs(self, text, names):
        told = []
        examples = doctest.DocTestParser().get_doctest(text, names, "session", None, None)
        self.assertTrue(examples.examples)
        doctest.DocTestRunner(verbose=False).run(examples, out=told.append)
        self.assertEqual("".join(told), "")

    def test_the_examples_of_the_interface(self):
        self.runs(SESSION, {"raised": raised})

    def test_the_examples_of_the_readme(self):
        with open(README, encoding="utf-8") as held:
            text = held.read()
        for piece in text.split("```python\n")[1:]:
            self.runs(piece.split("```")[0], {})


if __name__ == "__main__":
    unittest.main()
