"""Why a BOOK is not fair for a KIND: a name whose shapes can be made greater without a thing more."""

from holekinds.lightest import Lightest, ways_met
from holekinds.ways import context_along


def endless_paper(table, kind):
    """Tell a name, a context of the KIND and one of the name by it, and a shape of it; None if there is none.

    The second context is without things, so it can be put in again and again. Of all names that
    will do that one is told of which all three are as small as may be together.
    """
    fruitful = Lightest(table, True)
    leading = {name: fruitful.leads(table[name]) for name in table}
    still = Lightest(table, False)
    idling = {name: still.leads(table[name]) for name in table}
    found = []
    for name, (size, way) in ways_met(leading, fruitful.leads(kind)).items():
        around = ways_met(idling, idling[name]).get(name)
        if name in fruitful.known and around is not None:
            part_size, part = fruitful.known[name]
            found.append((size + around[0] + part_size, name, way, around[1], part))
    if len(found) == 0:
        return None
    _, name, way, back, part = min(found, key=lambda row: row[0])
    hole = ("name", name)
    return name, context_along(way, hole), context_along([("within", None)] + back, hole), part
