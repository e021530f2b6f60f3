"""Which KINDs have shapes, and which have shapes without things."""


class Shaping:
    """The names of a table whose KINDs have a shape; one without things, unless things are let."""

    def __init__(self, table, lets_things):
        self.lets_things = lets_things
        self.known = {}
        more = list(table)
        while more:
            more = [name for name in table if name not in self.known and self.has_shape(table[name])]
            for name in more:
                self.known[name] = True

    def has_shape(self, kind):
        """Tell whether the KIND has such a shape."""
        word = kind[0]
        if word == "name":
            return kind[1] in self.known
        if word == "pair":
            return self.has_shape(kind[1]) and self.has_shape(kind[2])
        if word == "either":
            return self.has_shape(kind[1]) or self.has_shape(kind[2])
        return word == "unit" or (word == "thing" and self.lets_things)

    def names_beside(self, kind):
        """List the names in the KIND beside whose ways, at each pair, the other part has such a shape."""
        word = kind[0]
        if word == "name":
            return [kind[1]]
        told = []
        if word == "either" or (word == "pair" and self.has_shape(kind[2])):
            told.extend(self.names_beside(kind[1]))
        if word == "either" or (word == "pair" and self.has_shape(kind[1])):
            told.extend(self.names_beside(kind[2]))
        return told
