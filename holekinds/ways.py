"""Ways to holes: what is passed by on the way from a value, or a context, to where a hole stands.

A way is a list of steps from the whole on, each a pair of a word and what stands beside it:
"first" and "second" go into a pair, past its other part; "left" and "right" go to what is on
this side of an either, "within" into a name that is the hole, and nothing stands beside them.
Marking, filling and spots are all told by the way alone.
"""

from holekinds.making import THING
from holekinds.values import parts_met


def paths_to(table, kind, hole, value):
    """List the paths of all spots of the HOLE in the value, in order."""
    return [path for part_kind, _, path in parts_met(table, kind, value) if part_kind == hole]


def way_to(table, kind, hole, value, path):
    """Tell the way down the path to a spot of the value, and the part there; None if it is no spot."""
    way = []
    at = 0
    while kind != hole or at < len(path):
        if kind[0] == "name":
            if kind == hole:
                way.append(("within", None))
            kind = table[kind[1]]
            continue
        step = step_to(kind, value, path[at:at + 1])
        if step is None:
            return None
        way.append(step)
        value = value[2] if step[0] == "second" else value[1]
        kind = kind_behind(step[0], kind)
        at += 1
    return way, value


def step_to(kind, value, ahead):
    """Tell the step into a value of the KIND by what is ahead of the path; None if there is none."""
    if kind[0] == "pair" and ahead == (1,):
        return "first", value[2]
    if kind[0] == "pair" and ahead == (2,):
        return "second", value[1]
    if kind[0] == "either" and ahead == (1,):
        return value[0], None
    return None


def kind_behind(word, kind):
    """Tell the KIND to which the step from a pair or an either leads that has the word."""
    return kind[1] if word in ("first", "left") else kind[2]


def way_of(table, kind, hole, context):
    """Tell the way that a context of the KIND by the HOLE keeps."""
    way = []
    while not is_here(kind, hole, context):
        if kind == hole:
            way.append(("within", None))
            kind, context = table[kind[1]], context[1]
        elif kind[0] == "name":
            kind = table[kind[1]]
        else:
            step, inner = step_kept(kind, context)
            way.append(step)
            kind, context = kind_behind(step[0], kind), inner
    return way


def is_here(kind, hole, context):
    """Tell whether the hole of a context of the KIND is where the context stands."""
    return kind == hole and (hole == THING or context[0] == "left")


def step_kept(kind, context):
    """Tell the step that a context of a pair or an either keeps, and the context behind it."""
    side, inner = context
    if kind[0] == "either":
        return (side, None), inner
    if side == "left":
        return ("first", inner[2]), inner[1]
    return ("second", inner[1]), inner[2]


def path_along(way):
    """Tell the path of the way: who goes into a name goes no index on."""
    return tuple([2 if word == "second" else 1 for word, _ in way if word != "within"])


def value_along(way, part):
    """Tell the value that has the part at the end of the way."""
    value = part
    for step in reversed(way):
        value = value_around(step, value)
    return value


def value_around(step, value):
    """Tell the value into which the step goes, to the value told."""
    word, beside = step
    if word == "first":
        return "pair", value, beside
    if word == "second":
        return "pair", beside, value
    return value if word == "within" else (word, value)


def context_along(way, hole):
    """Tell the context that keeps the way to the HOLE."""
    context = () if hole == THING else ("left", ())
    for word, beside in reversed(way):
        if word == "first":
            context = ("left", ("pair", context, beside))
        elif word == "second":
            context = ("right", ("pair", beside, context))
        elif word == "within":
            context = ("right", context)
        else:
            context = (word, context)
    return context
