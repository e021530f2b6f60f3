"""Rules beside KINDs, and algebras beside BOOKs: what they are, and what is asked of them.

The functions that work on a checked algebra take it as a dict of its rules by their names.
"""

from holekinds.books import check_kind, is_whole_number, table_of
from holekinds.errors import InvalidAlgebra, InvalidRule

WORDS_OF_PAIRS = ("plus", "times", "greater", "less")


def tables_for(book, algebra):
    """Tell the BOOK's table, and that of the algebra; refuse what is no BOOK, no algebra beside it."""
    table = table_of(book)
    return table, rules_of(book, algebra)


def tables_for_rule(book, algebra, kind, rule):
    """Tell the BOOK's table, and that of the algebra; refuse what is none of the arguments."""
    table, rules = tables_for(book, algebra)
    check_kind(table, kind)
    if not has_rule(kind, rule):
        raise InvalidRule(rule)
    return table, rules


def rules_of(book, algebra):
    """Tell the rules of the algebra by their names; refuse what is none beside the BOOK."""
    if type(algebra) != tuple or len(algebra) != len(book):
        raise InvalidAlgebra(None)
    for at, row in enumerate(algebra):
        name, kind = book[at]
        if not is_named_rule(name, kind, row):
            raise InvalidAlgebra(at)
    return dict(algebra)


def is_named_rule(name, kind, row):
    """Tell whether the row is a pair of this name and a rule beside the KIND."""
    if type(row) != tuple or len(row) != 2 or type(row[0]) != str:
        return False
    return row[0] == name and has_rule(kind, row[1])


def has_rule(kind, value):
    """Tell whether the value, whatever it is, is a rule beside the KIND."""
    waiting = [(kind, value)]
    while waiting:
        part, rule = waiting.pop()
        inner = rules_within(part, rule)
        if inner is None:
            return False
        waiting.extend(inner)
    return True


def rules_within(kind, rule):
    """List the pairs of a KIND and what should be a rule beside it that are left; None for no rule."""
    if type(rule) != tuple or len(rule) == 0 or type(rule[0]) != str:
        return None
    words, numbers, inner = form_beside(kind)
    if rule[0] not in words or len(rule) != 1 + numbers + len(inner):
        return None
    if not all([is_whole_number(number) for number in rule[1:1 + numbers]]):
        return None
    return list(zip(inner, rule[1:]))


def form_beside(kind):
    """Tell the words of a rule beside the KIND, how many numbers come behind, and which KINDs have rules."""
    word = kind[0]
    if word == "pair":
        return WORDS_OF_PAIRS, 0, kind[1:]
    if word == "either":
        return ("case",), 0, kind[1:]
    if word == "name":
        return ("answer",), 2, ()
    if word == "thing":
        return ("take",), 2, ()
    return (("number",), 1, ()) if word == "unit" else (("none",), 0, ())
