"""Values that are edited by deeds, and which deeds there are."""

from holekinds.books import has_kind, is_whole_number
from holekinds.errors import InvalidDeeds
from holekinds.steps import first_below, first_in, former_ahead, last_in, nearest_around, next_behind
from holekinds.ways import context_along, value_along

MOST_DEEDS = 200
STEPS = ("next", "former", "first", "last", "out", "in", "undo")


class Editing:
    """A value of a KIND at a cursor, which is told by its way and its part; kept are former ones."""

    def __init__(self, table, kind, hole, cursor):
        self.table = table
        self.kind = kind
        self.hole = hole
        self.way, self.part = cursor
        self.kept = []

    def does(self, deed):
        """Do the deed; tell whether it led anywhere, or, if it is undo, took something back."""
        if deed[0] == "undo":
            return self.takes_back()
        led = self.led_by(deed)
        if led is None:
            return False
        self.kept.append((self.way, self.part))
        self.way, self.part = led
        return True

    def takes_back(self):
        """Take back the last deed that was done and not taken back; tell whether there was one."""
        if len(self.kept) == 0:
            return False
        self.way, self.part = self.kept.pop()
        return True

    def led_by(self, deed):
        """Tell the cursor to which the deed leads; None if it leads nowhere."""
        word = deed[0]
        if word == "put":
            return self.way, deed[1]
        if word == "first":
            return first_in(self.table, self.kind, self.hole, self.value())
        if word == "last":
            return last_in(self.table, self.kind, self.hole, self.value())
        if word == "next":
            return next_behind(self.table, self.kind, self.hole, self.way, self.part)
        if word == "former":
            return former_ahead(self.table, self.kind, self.hole, self.way, self.part)
        if word == "out":
            return nearest_around(self.way, self.part)
        return first_below(self.table, self.hole, self.way, self.part)

    def value(self):
        """Tell the value that is edited."""
        return value_along(self.way, self.part)

    def context(self):
        """Tell the context where one is."""
        return context_along(self.way, self.hole)


def check_deeds(table, hole, deeds):
    """Refuse what is no tuple of deeds with the HOLE's parts."""
    if type(deeds) != tuple or len(deeds) > MOST_DEEDS:
        raise InvalidDeeds(None)
    for at, deed in enumerate(deeds):
        if not is_deed(table, hole, deed):
            raise InvalidDeeds(at)


def is_deed(table, hole, deed):
    """Tell whether it is a deed, whatever it is."""
    if type(deed) != tuple or len(deed) == 0 or type(deed[0]) != str:
        return False
    if deed[0] == "put" and len(deed) == 2:
        return has_kind(table, hole, deed[1], is_whole_number)
    return deed[0] in STEPS and len(deed) == 1
