"""KINDs, pairs of BOOKs, values and shapes, read by a reader that goes on behind them.

What is read of a KIND or a BOOK has the form alone: it may be too deep, or have too many parts.
"""

from holekinds.books import unfolded
from holekinds.shaping import Shaping
from holekinds.values import built, kind_on_side


class Bracket:
    """What is read of a KIND since a bracket was opened, or since a SINGLE began."""

    def __init__(self):
        self.first = None
        self.told = None

    def add_single(self, single):
        """Add what stands behind a |, if something stands ahead of it."""
        self.told = single if self.told is None else ("either", self.told, single)

    def begin_second(self):
        """Keep what is read as the first part of a pair."""
        self.first = self.told
        self.told = None

    def closed(self):
        """Tell the KIND in the bracket."""
        return self.told if self.first is None else ("pair", self.first, self.told)


def kind_read(reader):
    """Read a KIND, as long as it goes on."""
    kind = single_read(reader)
    while reader.take("|"):
        kind = ("either", kind, single_read(reader))
    return kind


def single_read(reader):
    """Read a SINGLE."""
    brackets = [Bracket()]
    read_on(reader, brackets)
    while len(brackets) > 1:
        go_on_in(reader, brackets[-1])
        read_on(reader, brackets)
    return brackets[0].told


def read_on(reader, brackets):
    """Read a SINGLE without a bracket, behind all that are opened, and close those that end behind it."""
    while reader.take("("):
        brackets.append(Bracket())
    brackets[-1].add_single(leaf_read(reader))
    while len(brackets) > 1 and reader.take(")"):
        inner = brackets.pop()
        brackets[-1].add_single(inner.closed())


def leaf_read(reader):
    """Read a SINGLE without a bracket."""
    if reader.form == "name":
        return "name", name_read(reader)
    if reader.token() not in ("thing", "none", "unit"):
        reader.refuse()
    return (reader.taken(),)


def go_on_in(reader, bracket):
    """Take the sign in the bracket behind which a SINGLE has to come."""
    if reader.take("|"):
        return
    if bracket.first is not None:
        reader.refuse()
    reader.expect(",")
    bracket.begin_second()


def pairs_read(reader):
    """Read the pairs of a BOOK up to the end of the text; tell them in the order of their names."""
    pairs = []
    while reader.form != "end":
        name = name_read(reader)
        reader.expect("=")
        pairs.append((name, kind_read(reader)))
        reader.expect(";")
    return tuple(sorted(pairs, key=lambda row: row[0]))


def name_read(reader):
    """Read a name."""
    if reader.form != "name":
        reader.refuse()
    return reader.taken()


def value_read(reader, table, kind):
    """Read a value of the KIND."""
    return read_with(reader, table, kind, number_read)


def shape_read(reader, table, kind):
    """Read a shape of the KIND."""
    return read_with(reader, table, kind, place_read)


def number_read(reader):
    """Read a thing of a value."""
    if reader.form != "number":
        reader.refuse()
    return int(reader.taken())


def place_read(reader):
    """Read the place of a thing in a shape."""
    reader.expect("*")
    return ()


def read_with(reader, table, kind, thing_read):
    """Read a value or a shape of the KIND, as thing_read reads its things.

    What is still to come waits: the text of a sign, or a KIND that has a value.
    """
    fruitful = Shaping(table, True)
    if not fruitful.has_shape(kind):
        reader.refuse()
    row = []
    waiting = [kind]
    while waiting:
        coming = waiting.pop()
        if type(coming) == str:
            reader.expect(coming)
            continue
        coming = unfolded(table, coming)
        if coming[0] == "thing":
            row.append(thing_read(reader))
        else:
            row.append(word_read(reader, coming, fruitful))
            waiting.extend(coming_behind(coming, row[-1]))
    return built(row)


def word_read(reader, kind, fruitful):
    """Tell the word of a value of the KIND; () for unit. Of an either it is read."""
    if kind[0] == "unit":
        return ()
    if kind[0] == "pair":
        return "pair"
    side = reader.token()
    if side not in ("left", "right") or not fruitful.has_shape(kind_on_side(kind, side)):
        reader.refuse()
    return reader.taken()


def coming_behind(kind, word):
    """List what comes behind the word of a value of the KIND, the last one first."""
    if kind[0] == "unit":
        return [")", "("]
    if kind[0] == "pair":
        return [")", kind[2], ",", kind[1], "("]
    return [")", kind_on_side(kind, word), "("]
