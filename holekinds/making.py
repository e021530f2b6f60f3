"""The rules that make a kind by a hole of the kind's text alone.

They stand in a file of their own, as what a BOOK is hangs on them, too.
"""

THING = ("thing",)
NONE = ("none",)
UNIT = ("unit",)


def name_made(name, hole):
    """Tell the name by the hole."""
    return name + "'" + (hole[1] if hole[0] == "name" else "")


def made_of(name):
    """Tell of which name and by which hole a name by a hole is made."""
    stem, _, last = name.rpartition("'")
    return stem, (THING if last == "" else ("name", last))


def kind_made(kind, hole):
    """Tell the kind by the hole."""
    if kind == hole:
        return hole_made(hole)
    word = kind[0]
    if word == "name":
        return "name", name_made(kind[1], hole)
    if word == "either":
        return "either", kind_made(kind[1], hole), kind_made(kind[2], hole)
    if word == "pair":
        return pair_made(kind[1], kind[2], hole)
    return NONE


def table_made(table, hole):
    """Tell the table of the book by the hole, however great it is."""
    told = dict(table)
    for name in table:
        told[name_made(name, hole)] = kind_made(table[name], hole)
    return told


def hole_made(hole):
    """Tell the kind of the hole itself by the hole."""
    if hole == THING:
        return UNIT
    return "either", UNIT, ("name", name_made(hole[1], hole))


def pair_made(first, second, hole):
    """Tell the kind of a pair by the hole: what the side that is not gone into keeps stays."""
    return "either", ("pair", kind_made(first, hole), second), ("pair", first, kind_made(second, hole))
