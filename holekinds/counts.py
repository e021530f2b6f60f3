"""Shapes: how many there are, whether of finitely many sizes, and their numbers, both ways."""

from holekinds.books import is_whole_number
from holekinds.checks import check_shape, check_value, table_for
from holekinds.errors import InvalidNumber, InvalidValue, NoShape, TooMany
from holekinds.numbering import number_of_shape, shape_numbered
from holekinds.shaping import Shaping
from holekinds.tally import Tally
from holekinds.values import shape_of_value, size_of, things_of

MOST_THINGS = 20
GREATEST_SIZE = 20
MOST_SHAPES = 2000


def counts(book, kind, things, size):
    """Tell how many shapes of the KIND have so many places of things and this size."""
    tally = checked_tally(book, kind, things, size)
    return tally.many(tally.top, things, size)


def is_fair(book, kind):
    """Tell whether the BOOK is fair for the KIND: for each number of places there are finitely many shapes."""
    table = table_for(book, kind)
    fruitful = Shaping(table, True)
    still = Shaping(table, False)
    led = {name: still.names_beside(table[name]) for name in table}
    stood = {name: fruitful.names_beside(table[name]) for name in table}
    for name in names_reached(stood, fruitful.names_beside(kind)):
        if name in fruitful.known and name in names_reached(led, led[name]):
            return False
    return True


def shape_of(book, kind, things, size, number):
    """Tell the shape of the KIND with so many places and this size that has the number."""
    tally = checked_tally(book, kind, things, size)
    if not is_number(number):
        raise InvalidNumber(number)
    if number >= tally.many(tally.top, things, size):
        raise NoShape(number)
    return shape_numbered(tally, things, size, number)


def number_of(book, kind, shape):
    """Tell how many places the shape has, its size, and its number among such shapes."""
    table = table_for(book, kind)
    check_shape(table, kind, shape)
    places = things_of(table, kind, shape)
    greatness = size_of(table, kind, shape)
    if places > MOST_THINGS or greatness > GREATEST_SIZE:
        raise InvalidValue(shape)
    return number_of_shape(Tally(table, kind, places, greatness), shape)


def shapes(book, kind, things, size):
    """Tell all shapes of the KIND with so many places and this size, in the order of their numbers."""
    tally = checked_tally(book, kind, things, size)
    many = tally.many(tally.top, things, size)
    if many > MOST_SHAPES:
        raise TooMany(many)
    return tuple([shape_numbered(tally, things, size, number) for number in range(many)])


def shape(book, kind, value):
    """Tell the shape of the value: () stands in the place of each thing."""
    table = table_for(book, kind)
    check_value(table, kind, value)
    return shape_of_value(table, kind, value)


def checked_tally(book, kind, things, size):
    """Tell the tally up to the things and the size; refuse what is none of the arguments."""
    table = table_for(book, kind)
    if not is_number(things) or things > MOST_THINGS:
        raise InvalidNumber(things)
    if not is_number(size) or size > GREATEST_SIZE:
        raise InvalidNumber(size)
    return Tally(table, kind, things, size)


def is_number(value):
    """Tell whether it is a whole number from 0 on."""
    return is_whole_number(value) and value >= 0


def names_reached(leading, first):
    """Tell the names to which the first ones lead, by any number of steps, as a dict of True."""
    reached = {}
    waiting = list(first)
    while waiting:
        name = waiting.pop()
        if name not in reached:
            reached[name] = True
            waiting.extend(leading[name])
    return reached
