"""How many shapes the KINDs of a BOOK have: by their places of things and their sizes.

Equal KINDs are one node, told by its number: their counts are made once, and numbers may be keys.
"""


class Tally:
    """The counts of a KIND, its parts and all KINDs that names lead to, up to the things and the size told."""

    def __init__(self, table, kind, things, size):
        self.things = things
        self.nodes = []
        self.numbers = {}
        self.roots = {}
        self.blocks = {}
        self.top = self.node_of(kind)
        self.add_roots(table)
        self.rows = [[] for _ in self.nodes]
        for at in range(size + 1):
            for node in range(len(self.nodes)):
                self.rows[node].append(self.row_made(node, at))

    def node_of(self, kind):
        """Tell the node of the KIND, behind those of its parts; add it if it is new."""
        made = kind
        if kind[0] in ("pair", "either"):
            made = (kind[0], self.node_of(kind[1]), self.node_of(kind[2]))
        if made not in self.numbers:
            self.numbers[made] = len(self.nodes)
            self.nodes.append(made)
        return self.numbers[made]

    def add_roots(self, table):
        """Add the KINDs of all names among the nodes, also of those that come by this."""
        at = 0
        while at < len(self.nodes):
            node = self.nodes[at]
            if node[0] == "name":
                self.roots[node[1]] = self.node_of(table[node[1]])
            at += 1

    def row_made(self, node, size):
        """Tell the counts of the node for the size, by their places, those of 0 left out.

        A name's are those of its KIND for one less, and so are made already.
        """
        made = self.nodes[node]
        word = made[0]
        if word == "pair":
            return self.row_of_pair(made[1], made[2], size)
        if word == "either":
            return sum_of_rows(self.rows[made[1]][size], self.rows[made[2]][size])
        if word == "name" and size > 0:
            return self.rows[self.roots[made[1]]][size - 1]
        if word in ("thing", "unit") and size == 0:
            return {1: 1} if word == "thing" else {0: 1}
        return {}

    def row_of_pair(self, first, second, size):
        """Tell the counts of a pair: products, over all ways to part places and size in two."""
        row = {}
        for at in range(size + 1):
            for things, many in self.rows[first][at].items():
                for more, other in self.rows[second][size - at].items():
                    if things + more <= self.things:
                        row[things + more] = row.get(things + more, 0) + many * other
        return row

    def many(self, node, things, size):
        """Tell how many shapes the node has with so many things and this size."""
        return self.rows[node][size].get(things, 0)

    def blocks_of(self, node, things, size):
        """List the blocks of a pair's shapes, in the order of their numbers.

        Each is told by the first part's things and size, how many shapes it has, and in how
        many of these, one behind the other, the first part is the same.
        """
        key = (node, things, size)
        if key not in self.blocks:
            self.blocks[key] = self.blocks_made(node, things, size)
        return self.blocks[key]

    def blocks_made(self, node, things, size):
        """List the blocks of a pair's shapes."""
        first, second = self.nodes[node][1], self.nodes[node][2]
        made = []
        for part in range(things + 1):
            for part_size in range(size + 1):
                behind = self.many(second, things - part, size - part_size)
                many = self.many(first, part, part_size) * behind
                if many > 0:
                    made.append((part, part_size, many, behind))
        return made


def sum_of_rows(row, other):
    """Tell the sum of two rows of counts."""
    told = dict(row)
    for things, many in other.items():
        told[things] = told.get(things, 0) + many
    return told
