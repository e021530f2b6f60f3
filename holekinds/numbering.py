"""Numbers of shapes, both ways, by a tally that reaches as far as they do."""

from holekinds.values import built


def shape_numbered(tally, things, size, number):
    """Tell the shape with so many things and this size that has the number."""
    row = []
    waiting = [(tally.top, things, size, number)]
    while waiting:
        node, things, size, number = waiting.pop()
        made = tally.nodes[node]
        if made[0] == "pair":
            row.append("pair")
            waiting.extend(parts_numbered(tally, node, things, size, number))
        elif made[0] == "either":
            left = tally.many(made[1], things, size)
            row.append("left" if number < left else "right")
            inner = (made[1], number) if number < left else (made[2], number - left)
            waiting.append((inner[0], things, size, inner[1]))
        elif made[0] == "name":
            waiting.append((tally.roots[made[1]], things, size - 1, number))
        else:
            row.append(())
    return built(row)


def parts_numbered(tally, node, things, size, number):
    """List what tells the parts of a pair by its number, the last one first."""
    made = tally.nodes[node]
    ahead = 0
    for part, part_size, many, behind in tally.blocks_of(node, things, size):
        if number < ahead + many:
            first, second = divmod(number - ahead, behind)
            return [(made[2], things - part, size - part_size, second), (made[1], part, part_size, first)]
        ahead += many
    return []


def number_of_shape(tally, shape):
    """Tell how many things the shape has, its size and its number."""
    told = []
    for node, part in reversed(nodes_met(tally, shape)):
        made = tally.nodes[node]
        if made[0] == "pair":
            first = told.pop()
            told.append(pair_numbered(tally, node, first, told.pop()))
        elif made[0] == "either":
            things, size, number = told.pop()
            ahead = tally.many(made[1], things, size) if part[0] == "right" else 0
            told.append((things, size, ahead + number))
        elif made[0] == "name":
            things, size, number = told.pop()
            told.append((things, size + 1, number))
        else:
            told.append((1 if made[0] == "thing" else 0, 0, 0))
    return told[0]


def nodes_met(tally, shape):
    """List the parts of the shape with their nodes, each ahead of its own parts."""
    met = []
    waiting = [(tally.top, shape)]
    while waiting:
        node, part = waiting.pop()
        met.append((node, part))
        made = tally.nodes[node]
        if made[0] == "pair":
            waiting.extend([(made[2], part[2]), (made[1], part[1])])
        elif made[0] == "either":
            waiting.append((made[1] if part[0] == "left" else made[2], part[1]))
        elif made[0] == "name":
            waiting.append((tally.roots[made[1]], part))
    return met


def pair_numbered(tally, node, first, second):
    """Tell things, size and number of a pair by those of both parts."""
    things = first[0] + second[0]
    size = first[1] + second[1]
    ahead = 0
    for part, part_size, many, behind in tally.blocks_of(node, things, size):
        if (part, part_size) == (first[0], first[1]):
            return things, size, ahead + first[2] * behind + second[2]
        ahead += many
    return things, size, ahead
