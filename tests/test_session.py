"""The session of examples in the interface, as it stands there, and those of README.md."""

import doctest
import os
import unittest

from holekinds import errors

SESSION = """
>>> from holekinds.counts import counts, is_fair, number_of, shape, shape_of, shapes
>>> from holekinds.holes import book_by, fill, kind_by, mark, size, spot_of, spots, things
>>> thing, unit, row, end = ("thing",), ("unit",), ("name", "Row"), ("left", ())
>>> book = (("Row", ("either", unit, ("pair", thing, row))),)
>>> value = ("right", ("pair", 5, ("right", ("pair", 7, end))))
>>> [spots(book, row, thing, value), spots(book, row, row, value), size(book, row, value), things(book, row, value)]
[((1, 1), (1, 2, 1, 1)), ((), (1, 2), (1, 2, 1, 2)), 3, 2]
>>> context, part = mark(book, row, thing, value, (1, 2, 1, 1))
>>> [context, part, fill(book, row, thing, context, 9), spot_of(book, row, thing, context)]
[('right', ('right', ('pair', 5, ('right', ('left', ('pair', (), ('left', ()))))))), 7, ('right', ('pair', 5, ('right', ('pair', 9, ('left', ()))))), (1, 2, 1, 1)]
>>> mark(book, row, row, value, (1, 2))
(('right', ('right', ('right', ('pair', 5, ('left', ()))))), ('right', ('pair', 7, ('left', ()))))
>>> raised(mark, book, row, thing, value, (2,))
NoSpot(given=(2,))
>>> [kind_by(book, row, thing), dict(book_by(book, thing))["Row'"]]
[('name', "Row'"), ('either', ('none',), ('either', ('pair', ('unit',), ('name', 'Row')), ('pair', ('thing',), ('name', "Row'"))))]
>>> [counts(book, row, 2, 3), counts(book, row, 2, 4), counts(book_by(book, thing), kind_by(book, row, thing), 1, 3)]
[1, 0, 2]
>>> tree = ("name", "Tree")
>>> wood = (("Tree", ("either", unit, ("pair", thing, ("pair", tree, tree)))),)
>>> [counts(wood, tree, 3, 7), len(shapes(wood, tree, 3, 7)), number_of(wood, tree, shape_of(wood, tree, 3, 7, 4)), shape(book, row, ("right", ("pair", 8, end)))]
[5, 5, (3, 7, 4), ('right', ('pair', (), ('left', ())))]
>>> loop = ("name", "Loop")
>>> [is_fair(book, row), is_fair((("Loop", ("either", unit, loop)),), loop), is_fair((("Loop", ("pair", unit, loop)),), loop)]
[True, False, True]
"""
README = os.path.join(os.path.dirname(os.path.dirname(os.path.abspath(__file__))), "README.md")


class Shown:
    """What a call raised, shown as the document shows it."""

    def __init__(self, text):
        self.text = text

    def __repr__(self):
        return self.text


def raised(function, *arguments):
    try:
        return function(*arguments)
    except errors.HoleError as error:
        told = ", ".join(f"{one}={worth!r}" for one, worth in vars(error).items())
        return Shown(f"{type(error).__name__}({told})")


class TestSession(unittest.TestCase):
    def runs(self, text, names):
        told = []
        examples = doctest.DocTestParser().get_doctest(text, names, "session", None, None)
        self.assertTrue(examples.examples)
        doctest.DocTestRunner(verbose=False).run(examples, out=told.append)
        self.assertEqual("".join(told), "")

    def test_the_examples_of_the_interface(self):
        self.runs(SESSION, {"raised": raised})

    def test_the_examples_of_the_readme(self):
        with open(README, encoding="utf-8") as held:
            text = held.read()
        for piece in text.split("```python\n")[1:]:
            self.runs(piece.split("```")[0], {})


if __name__ == "__main__":
    unittest.main()
