"""Folds by one loop without recursion: its states, its rounds, and where each state ends."""

from holekinds.answers import end_told, fold_told
from holekinds.books import is_whole_number
from holekinds.checks import check_value, table_for
from holekinds.errors import InvalidNumber
from holekinds.rounds import Loop
from holekinds.rules import tables_for, tables_for_rule
from holekinds.values import how_many

MOST_ROUNDS = 100000


def state(book, algebra, kind, rule, value, rounds):
    """Tell the state behind so many rounds; that in which the loop ends for more than it makes."""
    run = loop_from(book, algebra, kind, rule, value)
    if not is_whole_number(rounds) or rounds < 0 or rounds > MOST_ROUNDS:
        raise InvalidNumber(rounds)
    while run.made < rounds and not run.has_ended():
        run.go_round()
    return run.focus, tuple(run.frames)


def loop(book, algebra, kind, rule, value):
    """Tell the pair of the answer and of how many rounds were made."""
    run = loop_from(book, algebra, kind, rule, value)
    while not run.has_ended():
        run.go_round()
    return run.focus[1], run.made


def rounds_of(book, kind, value):
    """Tell how many rounds the loop makes at the value, whatever the rules are."""
    table = table_for(book, kind)
    check_value(table, kind, value)
    pairs = how_many(table, kind, value, "pair")
    sides = how_many(table, kind, value, "either")
    names = how_many(table, kind, value, "name")
    return 4 * pairs + 2 * sides + 2 * names + 1


def end_of(book, algebra, state):
    """Tell what the fold tells of the whole in the end, by the state alone."""
    table, rules = tables_for(book, algebra)
    focus, frames = state
    number = focus[1]
    if focus[0] == "value":
        number = fold_told(table, rules, focus[1], focus[2], focus[3])
    return end_told(table, rules, number, frames)


def loop_from(book, algebra, kind, rule, value):
    """Tell the loop that begins with the value; refuse what is none of the arguments."""
    table, rules = tables_for_rule(book, algebra, kind, rule)
    check_value(table, kind, value)
    return Loop(table, rules, kind, rule, value)
