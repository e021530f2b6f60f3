"""Two spots that are apart: at a pair the ways to them part, one into each of its parts.

All of two holes is told by this fork, which is the same whichever hole is made first.
"""

from holekinds.making import kind_made, table_made
from holekinds.ways import context_along, kind_behind, path_along, value_along, value_around, way_of


class Fork:
    """The steps up to the pair, without those into a name that is a hole; the part of the pair where
    the first hole is, "first" or "second"; the way to it there, and the way to the other hole.
    """

    def __init__(self, common, side, way, later):
        self.common = common
        self.side = side
        self.way = way
        self.later = later


def turned(fork):
    """Tell the fork with the other hole as the first one."""
    return Fork(fork.common, other_side(fork.side), fork.later, fork.way)


def other_side(side):
    """Tell the other part of a pair."""
    return "second" if side == "first" else "first"


def indexes_in_common(path, second):
    """Tell how many indexes both paths have in common from the first one on."""
    many = 0
    for one, other in zip(path, second):
        if one != other:
            return many
        many += 1
    return many


def fork_at(way, later, many):
    """Tell the fork of two ways in a value that have so many indexes in common."""
    plain = [step for step in way if step[0] != "within"]
    return Fork(plain[:many], plain[many][0], way_behind(way, many + 1), way_behind(later, many + 1))


def way_behind(way, many):
    """Tell what is behind so many of the way's steps that go an index on."""
    at = 0
    while many > 0:
        many -= 0 if way[at][0] == "within" else 1
        at += 1
    return way[at:]


def fork_kept(table, kind, hole, other, two):
    """Tell the fork that a context with two holes of the KIND keeps."""
    steps = way_of(table_made(table, hole), kind_made(kind, hole), other, two)
    common = []
    kind, at = behind_names(table, kind, hole, 0)
    while not is_fork(steps, at):
        at += 1 if kind[0] == "pair" else 0
        common.append(steps[at])
        kind, at = behind_names(table, kind_behind(steps[at][0], kind), hole, at + 1)
    side = "first" if steps[at][0] == "left" else "second"
    way = way_of(table, kind_behind(side, kind), hole, steps[at + 1][1])
    return Fork(common, side, way, steps[at + 2:])


def behind_names(table, kind, hole, at):
    """Tell the pair or the either that the name stands for, and the place behind the steps to it.

    In a kind by the HOLE only a name that is the HOLE itself costs a step.
    """
    while kind[0] == "name":
        at += 1 if kind == hole else 0
        kind = table[kind[1]]
    return kind, at


def is_fork(steps, at):
    """Tell whether the steps in a context go into the part of a pair where its hole is not."""
    return (steps[at][0], steps[at + 1][0]) in (("left", "second"), ("right", "first"))


def two_along(table, kind, hole, other, fork):
    """Tell the context with two holes of the KIND that keeps the fork."""
    steps = steps_by(table, kind, hole, fork.common + [(fork.side, None)])
    steps[-1] = (other_side(fork.side), context_along(fork.way, hole))
    return context_along(steps + fork.later, other)


def steps_by(table, kind, hole, plain):
    """List the steps in a context of the KIND by the HOLE that go where the plain ones go in a value."""
    steps = []
    for step in plain:
        while kind[0] == "name":
            if kind == hole:
                steps.append(("right", None))
            kind = table[kind[1]]
        if kind[0] == "pair":
            steps.append(("left" if step[0] == "first" else "right", None))
        steps.append(step)
        kind = kind_behind(step[0], kind)
    return steps


def value_of_fork(fork, part, second_part):
    """Tell the value with both parts at the ends of the fork."""
    beside = value_along(fork.later, second_part)
    return value_along(fork.common, value_around((fork.side, beside), value_along(fork.way, part)))


def paths_of_fork(fork):
    """Tell the paths to both holes in the value."""
    first = path_along(fork.common + [(fork.side, None)] + fork.way)
    return first, path_along(fork.common + [(other_side(fork.side), None)] + fork.later)
