"""What several tests need: BOOKs, odd things to pass, and ways to build great KINDs."""

from tests import reference

THING = ("thing",)
NONE = ("none",)
UNIT = ("unit",)
LEAF = ("left", ())


def name(text):
    return ("name", text)


def pair(first, second):
    return ("pair", first, second)


def either(left, right):
    return ("either", left, right)


# The kinds by the holes below are worked out by hand, clause by clause of [B1].
ROW = either(UNIT, pair(THING, name("Row")))
ROW_BY_THING = either(NONE, either(pair(UNIT, name("Row")), pair(THING, name("Row'"))))
ROW_BY_ROW = either(
    NONE,
    either(pair(NONE, name("Row")), pair(THING, either(UNIT, name("Row'Row")))))
ROW_BY_THING_BY_THING = either(
    NONE,
    either(
        either(pair(NONE, name("Row")), pair(UNIT, name("Row'"))),
        either(pair(UNIT, name("Row'")), pair(THING, name("Row''")))))
ROW_BY_THING_BY_ROW = either(
    NONE,
    either(
        either(pair(NONE, name("Row")), pair(UNIT, either(UNIT, name("Row'Row")))),
        either(pair(NONE, name("Row'")), pair(THING, name("Row''Row")))))
ROW_BY_ROW_BY_THING = either(
    NONE,
    either(
        either(pair(NONE, name("Row")), pair(NONE, name("Row'"))),
        either(pair(UNIT, either(UNIT, name("Row'Row"))), pair(THING, either(NONE, name("Row'Row'"))))))
ROW_BY_ROW_BY_ROW = either(
    NONE,
    either(
        either(pair(NONE, name("Row")), pair(NONE, either(UNIT, name("Row'Row")))),
        either(
            pair(NONE, either(UNIT, name("Row'Row"))),
            pair(THING, either(NONE, name("Row'Row'Row"))))))

ROWS = (("Row", ROW),)
ROWS_BY_THING = (("Row", ROW), ("Row'", ROW_BY_THING))
ROWS_BY_ROW = (("Row", ROW), ("Row'Row", ROW_BY_ROW))
ROWS_BY_THING_BY_THING = (
    ("Row", ROW), ("Row'", ROW_BY_THING), ("Row''", ROW_BY_THING_BY_THING))
ROWS_BY_BOTH = (
    ("Row", ROW), ("Row'", ROW_BY_THING), ("Row''Row", ROW_BY_THING_BY_ROW),
    ("Row'Row", ROW_BY_ROW), ("Row'Row'", ROW_BY_ROW_BY_THING))
ROWS_BY_ALL = (
    ("Row", ROW), ("Row'", ROW_BY_THING), ("Row''", ROW_BY_THING_BY_THING),
    ("Row''Row", ROW_BY_THING_BY_ROW), ("Row'Row", ROW_BY_ROW), ("Row'Row'", ROW_BY_ROW_BY_THING),
    ("Row'Row'Row", ROW_BY_ROW_BY_ROW))


class Odd:
    """An object that lets nothing be asked of it."""

    @property
    def __class__(self):
        raise RuntimeError

    def __eq__(self, other):
        raise RuntimeError

    def __hash__(self):
        raise RuntimeError

    def __len__(self):
        raise RuntimeError

    def __bool__(self):
        raise RuntimeError

    def __iter__(self):
        raise RuntimeError

    def __getitem__(self, at):
        raise RuntimeError

    def __repr__(self):
        raise RuntimeError


class OddText(str):
    """A text of a class of its own that lets itself not be compared."""

    def __eq__(self, other):
        raise RuntimeError

    def __hash__(self):
        raise RuntimeError


class OddTuple(tuple):
    """A tuple of a class of its own that lets itself not be measured."""

    def __len__(self):
        raise RuntimeError

    def __getitem__(self, at):
        raise RuntimeError


def nested(seed, step, times):
    """What comes of the seed by so many steps."""
    for _ in range(times):
        seed = step(seed)
    return seed


def deep_kind(depth, leaf=UNIT):
    """A KIND so deep."""
    return nested(leaf, lambda kind: ("either", UNIT, kind), depth - 1)


def wide_kind(parts, leaf=UNIT):
    """A KIND of so many parts, an odd number, as flat as may be."""
    row = [leaf] * ((parts + 1) // 2)
    while len(row) > 1:
        together = [("pair", row[at], row[at + 1]) for at in range(0, len(row) - 1, 2)]
        row = together + (row[-1:] if len(row) % 2 else [])
    return row[0]


def odd_things():
    """Things of every sort that are no name, no KIND and no value of a pair or an either."""
    loop = []
    loop.append(loop)
    return [
        None, True, False, 0, 1, -1, 10 ** 399, "", "thing", "unit", "Row ", b"Row", b"thing",
        [], ["thing"], ["name", "Row"], {}, {"thing": 1}, {1: loop}, set(), {"thing"},
        frozenset(["thing"]), range(3), object(), Odd(), Odd, print, lambda: None, Ellipsis,
        NotImplemented, iter(()), ValueError("thing"), ValueError, 3j, memoryview(b"x"),
        OddText("Rows of them"), OddTuple(("thing",)), OddTuple(), loop,
        ((),), (None,), (True,), (0,), (Odd(),), (Odd(), UNIT, UNIT), (OddText("thing"),),
        ("pair",), ("pair", Odd(), Odd()), ("name", Odd()), ("name", OddText("Row")),
        ("either", UNIT, Odd()), ("pair", [], {}), ("name", []), ("name", {}), ("left", Odd()),
        ("right", Odd()), (["thing"],), ({},), (b"thing",), ("Thing",), ("thing ",),
        nested((), lambda told: (told,), 290), nested((), lambda told: [told], 290),
        nested((), lambda told: {1: told}, 290), nested(0, lambda told: (told, told), 290),
        nested(("thing",), lambda told: ("pair", told, told), 290), "\ud800", "\u00c9", "Row\u00b2",
    ]


# Books of every sort, each with kinds of which values are looked through.
TREES = (("Tree", either(UNIT, pair(name("Tree"), pair(THING, name("Tree"))))),)
ROSES = (
    ("Roses", either(UNIT, pair(name("Stem"), name("Roses")))), ("Stem", pair(THING, name("Roses"))))
BOXES = (("Box", name("Row")), ("Row", either(pair(name("Box"), THING), UNIT)), ("Twin", name("Box")))
LOST = (
    ("Lost", pair(THING, name("Lost"))),
    ("Some", either(name("Lost"), pair(THING, either(UNIT, name("Some"))))))
IDLES = (("Again", name("Idle")), ("Idle", either(THING, name("Again"))))
ROUND = (("A", name("B")), ("B", name("A")), ("C", either(name("A"), pair(name("D"), name("D")))), ("D", UNIT))
FLATS = (("Bit", either(UNIT, UNIT)), ("Pair", pair(THING, name("Bit"))))

SAMPLES = [
    ((), THING), ((), UNIT), ((), NONE), ((), pair(THING, pair(THING, THING))),
    ((), either(pair(THING, UNIT), either(THING, NONE))), ((), pair(either(THING, UNIT), either(UNIT, THING))),
    (ROWS, name("Row")), (ROWS, ROW), (ROWS, pair(name("Row"), pair(THING, name("Row")))),
    (ROWS, either(NONE, name("Row"))), (ROWS_BY_ALL, name("Row'")), (ROWS_BY_ALL, name("Row'Row")),
    (ROWS_BY_ALL, ROW_BY_THING_BY_ROW), (TREES, name("Tree")), (ROSES, name("Roses")),
    (ROSES, pair(name("Stem"), THING)), (BOXES, name("Twin")), (BOXES, either(name("Row"), name("Box"))),
    (LOST, name("Some")), (LOST, name("Lost")), (LOST, either(UNIT, name("Lost"))), (IDLES, name("Idle")),
    (IDLES, pair(name("Again"), name("Idle"))), (ROUND, name("C")), (ROUND, name("A")),
    (FLATS, name("Pair")), (FLATS, pair(name("Bit"), pair(name("Bit"), THING)))]


def holes_of(book):
    """All HOLEs of the BOOK."""
    return [THING] + [name(one) for one, kind in book if "'" not in one]


def samples_with_holes(most_things=2, most_size=4):
    """Each sample with each hole of its book and each of its small values."""
    for book, kind in SAMPLES:
        values = reference.values(book, kind, most_things, most_size)
        for hole in holes_of(book):
            yield book, kind, hole, values


def row_of(*told):
    """The Row of these things."""
    value = LEAF
    for thing in reversed(told):
        value = ("right", ("pair", thing, value))
    return value


def node(left, thing, right):
    """The Tree of these two with the thing between."""
    return ("right", ("pair", left, ("pair", thing, right)))
