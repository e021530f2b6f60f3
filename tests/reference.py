"""The points of the document told once more, as plainly as may be, for the tests to compare with.

All is told by recursion, clause by clause; a book is passed as it is.
"""

import functools

THING = ("thing",)
NONE = ("none",)
UNIT = ("unit",)


def kind_of(book, name):
    return dict(book)[name]


# [B1]

def kind_by(kind, hole):
    if kind == hole:
        if hole == THING:
            return UNIT
        return ("either", UNIT, ("name", hole[1] + "'" + hole[1]))
    if kind[0] in ("thing", "unit", "none"):
        return NONE
    if kind[0] == "pair":
        return (
            "either", ("pair", kind_by(kind[1], hole), kind[2]), ("pair", kind[1], kind_by(kind[2], hole)))
    if kind[0] == "either":
        return ("either", kind_by(kind[1], hole), kind_by(kind[2], hole))
    return ("name", kind[1] + "'" + (hole[1] if hole[0] == "name" else ""))


def book_by(book, hole):
    more = {name + "'" + (hole[1] if hole[0] == "name" else ""): kind_by(kind, hole) for name, kind in book}
    return tuple(sorted({**dict(book), **more}.items(), key=lambda row: row[0]))


# [B2]

def spots(book, kind, hole, value):
    told = []
    if kind == hole:
        told = [()]
        if hole[0] == "name":
            told += spots(book, kind_of(book, hole[1]), hole, value)
    elif kind[0] == "pair":
        told = [(1,) + path for path in spots(book, kind[1], hole, value[1])]
        told += [(2,) + path for path in spots(book, kind[2], hole, value[2])]
    elif kind[0] == "either":
        side = kind[1] if value[0] == "left" else kind[2]
        told = [(1,) + path for path in spots(book, side, hole, value[1])]
    elif kind[0] == "name":
        told = spots(book, kind_of(book, kind[1]), hole, value)
    return told


# [B3]

def mark(book, kind, hole, value, path):
    if kind == hole and path == ():
        return (() if hole == THING else ("left", ())), value
    if kind == hole:
        context, part = mark(book, kind_of(book, hole[1]), hole, value, path)
        return ("right", context), part
    if kind[0] == "pair" and path[0] == 1:
        context, part = mark(book, kind[1], hole, value[1], path[1:])
        return ("left", ("pair", context, value[2])), part
    if kind[0] == "pair":
        context, part = mark(book, kind[2], hole, value[2], path[1:])
        return ("right", ("pair", value[1], context)), part
    if kind[0] == "either":
        side = kind[1] if value[0] == "left" else kind[2]
        context, part = mark(book, side, hole, value[1], path[1:])
        return (value[0], context), part
    return mark(book, kind_of(book, kind[1]), hole, value, path)


def put(value, path, part):
    """The value with the part at the path."""
    if path == ():
        return part
    return value[:path[0]] + (put(value[path[0]], path[1:], part),) + value[path[0] + 1:]


def fill(book, kind, hole, context, part):
    """The value of the context with the part; nothing is asked of the part."""
    if kind == hole:
        if hole == THING or context[0] == "left":
            return part
        return fill(book, kind_of(book, hole[1]), hole, context[1], part)
    if kind[0] == "name":
        return fill(book, kind_of(book, kind[1]), hole, context, part)
    side, inner = context
    if kind[0] == "either":
        return side, fill(book, kind[1] if side == "left" else kind[2], hole, inner, part)
    if side == "left":
        return "pair", fill(book, kind[1], hole, inner[1], part), inner[2]
    return "pair", inner[1], fill(book, kind[2], hole, inner[2], part)


# [C1] to [C4], all told by the whole value and the paths of its spots

def cursors(book, kind, hole, value):
    return [mark(book, kind, hole, value, path) for path in spots(book, kind, hole, value)]


def begins(path, other):
    return other[:len(path)] == path


def path_led(book, kind, hole, value, path, word):
    """The path to which the deed of this word leads from the spot at the path; None for nowhere."""
    told = spots(book, kind, hole, value)
    at = told.index(path)
    outer = [one for one in told if one != path and begins(one, path)]
    inner = [one for one in told if one != path and begins(path, one)]
    lists = {
        "next": told[at + 1:at + 2], "former": told[at - 1:at] if at else [], "first": told[:1],
        "last": told[-1:], "out": outer[-1:], "in": inner[:1]}
    return lists[word][0] if lists[word] else None


def behind_deeds(book, kind, hole, value, path, deeds):
    """The value and the path behind the deeds, and which of these led anywhere."""
    kept, led = [], []
    for deed in deeds:
        if deed == ("undo",):
            led.append(bool(kept))
            value, path = kept.pop() if kept else (value, path)
            continue
        if deed[0] == "put":
            behind = (put(value, path, deed[1]), path)
        else:
            behind = (value, path_led(book, kind, hole, value, path, deed[0]))
        led.append(behind[1] is not None)
        if behind[1] is not None:
            kept.append((value, path))
            value, path = behind
    return value, path, led


# [C5]

def are_apart(path, second):
    return not begins(path, second) and not begins(second, path)


def mark_two(book, kind, hole, other, value, path, second):
    """The context with both holes and both parts; where the second spot is now is looked for."""
    by_hole, kind_made = book_by(book, hole), kind_by(kind, hole)
    context, part = mark(book, kind, hole, value, path)
    gone = object()
    for there in spots(by_hole, kind_made, other, context):
        two, second_part = mark(by_hole, kind_made, other, context, there)
        if fill_two(book, kind, hole, other, two, part, gone) == put(value, second, gone):
            return two, part, second_part
    return None


def fill_two(book, kind, hole, other, two, part, second_part):
    context = fill(book_by(book, hole), kind_by(kind, hole), other, two, second_part)
    return fill(book, kind, hole, context, part)


# [E1], [E2]

def joined(word, first, second):
    told = {
        "plus": first + second, "times": first * second, "greater": max(first, second), "less": first - second}
    return told[word]


def fold(book, algebra, kind, rule, value):
    if kind == THING:
        return rule[1] * value + rule[2]
    if kind == UNIT:
        return rule[1]
    if kind[0] == "name":
        inner = fold(book, algebra, kind_of(book, kind[1]), kind_of(algebra, kind[1]), value)
        return rule[1] * inner + rule[2]
    if kind[0] == "either":
        at = 1 if value[0] == "left" else 2
        return fold(book, algebra, kind[at], rule[at], value[1])
    first, second = [fold(book, algebra, kind[at], rule[at], value[at]) for at in (1, 2)]
    return joined(rule[0], first, second)


def fold_around(book, algebra, kind, rule, hole, context, number):
    if kind == hole and (hole == THING or context[0] == "left"):
        return rule[1] * number + rule[2]
    if kind[0] == "name":
        inner = context[1] if kind == hole else context
        there = kind_of(book, kind[1]), kind_of(algebra, kind[1])
        return rule[1] * fold_around(book, algebra, *there, hole, inner, number) + rule[2]
    side, inner = context
    if kind[0] == "either":
        at = 1 if side == "left" else 2
        return fold_around(book, algebra, kind[at], rule[at], hole, inner, number)
    if side == "left":
        first = fold_around(book, algebra, kind[1], rule[1], hole, inner[1], number)
        return joined(rule[0], first, fold(book, algebra, kind[2], rule[2], inner[2]))
    first = fold(book, algebra, kind[1], rule[1], inner[1])
    return joined(rule[0], first, fold_around(book, algebra, kind[2], rule[2], hole, inner[2], number))


# [E3]

def states(book, algebra, kind, rule, value):
    """All states from the first one to the last one, told by recursion."""
    return list(states_around(book, algebra, kind, rule, value, ()))


def states_around(book, algebra, kind, rule, value, frames):
    """The states from going into the value until its answer, within the frames."""
    yield ("value", kind, rule, value), frames
    if kind[0] == "name":
        frame = ("name", kind[1], rule[1], rule[2])
        there = kind_of(book, kind[1]), kind_of(algebra, kind[1])
        yield from states_around(book, algebra, *there, value, frames + (frame,))
    elif kind[0] == "either":
        at = 1 if value[0] == "left" else 2
        yield from states_around(book, algebra, kind[at], rule[at], value[1], frames + (("side", value[0]),))
    elif kind[0] == "pair":
        behind = ("behind", rule[0], kind[2], rule[2], value[2])
        yield from states_around(book, algebra, kind[1], rule[1], value[1], frames + (behind,))
        ahead = ("ahead", rule[0], fold(book, algebra, kind[1], rule[1], value[1]))
        yield from states_around(book, algebra, kind[2], rule[2], value[2], frames + (ahead,))
    yield ("answer", fold(book, algebra, kind, rule, value)), frames


# [B5]

def size(book, kind, value):
    if kind[0] == "name":
        return 1 + size(book, kind_of(book, kind[1]), value)
    if kind[0] == "pair":
        return size(book, kind[1], value[1]) + size(book, kind[2], value[2])
    if kind[0] == "either":
        return size(book, kind[1] if value[0] == "left" else kind[2], value[1])
    return 0


def things(book, kind, value):
    if kind[0] == "name":
        return things(book, kind_of(book, kind[1]), value)
    if kind[0] == "pair":
        return things(book, kind[1], value[1]) + things(book, kind[2], value[2])
    if kind[0] == "either":
        return things(book, kind[1] if value[0] == "left" else kind[2], value[1])
    return 1 if kind == THING else 0


# [D1], [D4]

@functools.lru_cache(maxsize=None)
def shapes(book, kind, things, size):
    """All shapes with so many places and this size, in the order of their numbers."""
    if kind[0] in ("thing", "unit"):
        return [()] if (things, size) == (1 if kind == THING else 0, 0) else []
    if kind[0] == "none":
        return []
    if kind[0] == "name":
        return shapes(book, kind_of(book, kind[1]), things, size - 1) if size > 0 else []
    if kind[0] == "either":
        return (
            [("left", one) for one in shapes(book, kind[1], things, size)]
            + [("right", one) for one in shapes(book, kind[2], things, size)])
    return [
        ("pair", first, second)
        for there in range(things + 1)
        for at in range(size + 1)
        for first in shapes(book, kind[1], there, at)
        for second in shapes(book, kind[2], things - there, size - at)]


@functools.lru_cache(maxsize=None)
def counts(book, kind, things, size):
    if kind == THING:
        return 1 if (things, size) == (1, 0) else 0
    if kind == UNIT:
        return 1 if (things, size) == (0, 0) else 0
    if kind == NONE:
        return 0
    if kind[0] == "name":
        return counts(book, kind_of(book, kind[1]), things, size - 1) if size > 0 else 0
    if kind[0] == "either":
        return counts(book, kind[1], things, size) + counts(book, kind[2], things, size)
    return sum(
        counts(book, kind[1], there, at) * counts(book, kind[2], things - there, size - at)
        for there in range(things + 1) for at in range(size + 1))


def with_things(book, kind, shape, first=1):
    """The value of the shape whose things are the numbers from the first one on, in order."""
    return filled(book, kind, shape, iter(range(first, 10 ** 9)))


def filled(book, kind, shape, numbers):
    if kind[0] == "name":
        return filled(book, kind_of(book, kind[1]), shape, numbers)
    if kind[0] == "pair":
        return ("pair", filled(book, kind[1], shape[1], numbers), filled(book, kind[2], shape[2], numbers))
    if kind[0] == "either":
        side = kind[1] if shape[0] == "left" else kind[2]
        return (shape[0], filled(book, side, shape[1], numbers))
    return next(numbers) if kind == THING else ()


def values(book, kind, most_things, most_size):
    """A value of each shape with up to so many things and up to this size, all things unlike."""
    return [
        with_things(book, kind, shape)
        for there in range(most_things + 1)
        for at in range(most_size + 1)
        for shape in shapes(book, kind, there, at)]


# [D3]

def has_shape(book, kind, lets_things, unfolding=()):
    """Whether the KIND has a shape; one without things, if these are not let.

    If there is such a shape, there is one in which no name stands within itself.
    """
    if kind[0] == "name":
        if kind[1] in unfolding:
            return False
        return has_shape(book, kind_of(book, kind[1]), lets_things, unfolding + (kind[1],))
    if kind[0] == "pair":
        return all(has_shape(book, part, lets_things, unfolding) for part in kind[1:])
    if kind[0] == "either":
        return any(has_shape(book, part, lets_things, unfolding) for part in kind[1:])
    return kind == UNIT or (kind == THING and lets_things)


def stand_in(book, kind, lets_things):
    """The names in the KIND beside whose ways each part has such a shape."""
    if kind[0] == "name":
        return {kind[1]}
    if kind[0] == "either":
        return stand_in(book, kind[1], lets_things) | stand_in(book, kind[2], lets_things)
    told = set()
    if kind[0] == "pair" and has_shape(book, kind[2], lets_things):
        told |= stand_in(book, kind[1], lets_things)
    if kind[0] == "pair" and has_shape(book, kind[1], lets_things):
        told |= stand_in(book, kind[2], lets_things)
    return told


def is_fair(book, kind):
    met = stand_in(book, kind, True)
    for _ in book:
        met = met.union(*[stand_in(book, kind_of(book, name), True) for name in met])
    led = {name: stand_in(book, kind_of(book, name), False) for name, _ in book}
    for _ in book:
        led = {name: there.union(*[led[one] for one in there]) for name, there in led.items()}
    return not any(has_shape(book, ("name", name), True) and name in led[name] for name in met)


# [A5]: the texts of each form, as rows of tokens

@functools.lru_cache(maxsize=None)
def single_texts(many):
    """All rows of so many tokens that are a SINGLE, of thing, Row and brackets."""
    if many == 1:
        return [("thing",), ("Row",)]
    told = [("(", *inner, ")") for inner in kind_texts(many - 2)] if many > 2 else []
    for first in range(1, many - 3):
        told += [
            ("(", *one, ",", *other, ")")
            for one in kind_texts(first) for other in kind_texts(many - 3 - first)]
    return told


@functools.lru_cache(maxsize=None)
def kind_texts(many):
    """All rows of so many tokens that are a KIND, of thing, Row and brackets."""
    told = list(single_texts(many))
    for ahead in range(1, many - 1):
        told += [(*one, "|", *other) for one in kind_texts(ahead) for other in single_texts(many - 1 - ahead)]
    return told


@functools.lru_cache(maxsize=None)
def book_texts(many):
    """All rows of so many tokens that are a BOOK."""
    if many == 0:
        return [()]
    return [
        ("Row", "=", *kind, ";", *more)
        for inner in range(1, many - 2)
        for kind in kind_texts(inner) for more in book_texts(many - 3 - inner)]


@functools.lru_cache(maxsize=None)
def value_texts(book, kind, most, leaf):
    """The rows of tokens that are a VALUE, the leaf being the token of a thing.

    Those of more than so many tokens are cut off behind so many; the others are whole.
    """
    if most == 0 or not has_shape(book, kind, True):
        return {()} if has_shape(book, kind, True) else set()
    if kind[0] == "name":
        return value_texts(book, kind_of(book, kind[1]), most, leaf)
    if kind == THING:
        return {(leaf,)}
    if kind == UNIT:
        return {("(", ")")[:most]}
    if kind[0] == "pair":
        return one_behind_the_other(book, ["(", kind[1], ",", kind[2], ")"], most, leaf)
    sides = [(side, part) for side, part in zip(("left", "right"), kind[1:]) if has_shape(book, part, True)]
    return set().union(*[one_behind_the_other(book, [side, "(", part, ")"], most, leaf) for side, part in sides])


def one_behind_the_other(book, items, most, leaf):
    """The rows of tokens and of VALUEs one behind the other, cut off behind so many."""
    rows = {()}
    for item in items:
        rows = {
            row + more
            for row in rows
            for more in ({(item,)[:most - len(row)]} if isinstance(item, str)
                         else value_texts(book, item, most - len(row), leaf))}
    return rows
