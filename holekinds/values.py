"""What is made of values that are known to have their KIND: parts, sizes, things, shapes.

A BOOK is passed as its table, a dict of its KINDs by their NAMEs.
"""


def parts_met(table, kind, value):
    """List the value's parts, names being unfolded: triples of a KIND, the part of it, its path.

    A part stands ahead of those within it, a first one of a pair ahead of the second one.
    """
    met = []
    waiting = [(kind, value, ())]
    while waiting:
        part_kind, part, path = waiting.pop()
        met.append((part_kind, part, path))
        waiting.extend(parts_below(table, part_kind, part, path))
    return met


def parts_below(table, kind, value, path):
    """List the triples directly below one of parts_met, the last one first."""
    word = kind[0]
    if word == "name":
        return [(table[kind[1]], value, path)]
    if word == "pair":
        return [(kind[2], value[2], path + (2,)), (kind[1], value[1], path + (1,))]
    if word == "either":
        return [(kind_on_side(kind, value[0]), value[1], path + (1,))]
    return []


def kind_on_side(kind, side):
    """Tell the KIND on the side of an either, "left" or "right"."""
    return kind[1] if side == "left" else kind[2]


def how_many(table, kind, value, word):
    """Tell how many parts of the value have a KIND of this word: names unfolded, things."""
    return len([part for part_kind, part, _ in parts_met(table, kind, value) if part_kind[0] == word])


def size_of(table, kind, value):
    """Tell the size of the value."""
    return how_many(table, kind, value, "name")


def things_of(table, kind, value):
    """Tell how many things the value has."""
    return how_many(table, kind, value, "thing")


def shape_of_value(table, kind, value):
    """Tell the shape of the value."""
    row = []
    for part_kind, part, _ in parts_met(table, kind, value):
        word = part_kind[0]
        if word == "pair":
            row.append("pair")
        elif word == "either":
            row.append(part[0])
        elif word != "name":
            row.append(())
    return built(row)


def built(row):
    """Tell the value of which the row has all words and leaves, each word ahead of its parts.

    So a value is told without recursion, however deep it is.
    """
    made = []
    for item in reversed(row):
        if item == "pair":
            first = made.pop()
            made.append(("pair", first, made.pop()))
        elif item in ("left", "right"):
            made.append((item, made.pop()))
        else:
            made.append(item)
    return made[0]
