"""Shapes of KINDs of the least size, with things or without, and the names beside which they may stand."""


class Lightest:
    """For each name of a table that has a shape, the least size of one, and such a shape.

    Shapes are without things, unless things are let. A size is kept beside each shape: a shape that
    has one part many times over may be too great to be looked through for it.
    """

    def __init__(self, table, lets_things):
        self.lets_things = lets_things
        self.known = {}
        has_more = True
        while has_more:
            has_more = False
            for name in table:
                found = self.of_kind(table[name])
                if found is not None and (name not in self.known or found[0] + 1 < self.known[name][0]):
                    self.known[name] = (found[0] + 1, found[1])
                    has_more = True

    def of_kind(self, kind):
        """Tell the least size of the KIND's shapes, and such a shape; None if there is none."""
        word = kind[0]
        if word == "name":
            return self.known.get(kind[1])
        if word == "pair":
            first, second = self.of_kind(kind[1]), self.of_kind(kind[2])
            if first is None or second is None:
                return None
            return first[0] + second[0], ("pair", first[1], second[1])
        if word == "either":
            return self.of_either(kind)
        return (0, ()) if word == "unit" or (word == "thing" and self.lets_things) else None

    def of_either(self, kind):
        """Tell the same for an either: what the side tells whose shapes are smaller."""
        left, right = self.of_kind(kind[1]), self.of_kind(kind[2])
        if left is None and right is None:
            return None
        if right is None or (left is not None and left[0] <= right[0]):
            return left[0], ("left", left[1])
        return right[0], ("right", right[1])

    def leads(self, kind):
        """List the names in the KIND beside whose ways each part has such a shape.

        Each is told with how great these shapes are, and the way to it that has them beside it.
        """
        word = kind[0]
        if word == "name":
            return [(kind[1], 0, [])]
        told = []
        if word == "either":
            told.extend(self.leads_behind(("left", None), 0, kind[1]))
            told.extend(self.leads_behind(("right", None), 0, kind[2]))
        if word == "pair":
            first, second = self.of_kind(kind[1]), self.of_kind(kind[2])
            if second is not None:
                told.extend(self.leads_behind(("first", second[1]), second[0], kind[1]))
            if first is not None:
                told.extend(self.leads_behind(("second", first[1]), first[0], kind[2]))
        return told

    def leads_behind(self, step, size, kind):
        """List the same for the KIND, the step ahead."""
        return [(name, size + more, [step] + way) for name, more, way in self.leads(kind)]


def ways_met(leading, first):
    """Tell the names to which the first leads lead, by any number of names: sizes and ways, as small as may be.

    leading has the leads of each name's KIND; a way goes from the KIND of the first leads on.
    """
    near = {}
    note_leads(near, {}, 0, [], first)
    met = {}
    while near:
        name = min(list(near), key=lambda one: near[one][0])
        size, way = near.pop(name)
        met[name] = (size, way)
        note_leads(near, met, size + 1, way, leading[name])
    return met


def note_leads(near, met, size, way, leads):
    """Note the names that are not met by the leads behind a way, where this way is smaller."""
    for name, more, behind in leads:
        if name not in met and (name not in near or size + more < near[name][0]):
            near[name] = (size + more, way + behind)
