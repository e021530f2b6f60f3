"""Rules and algebras of every sort, for the tests of folds, loops and claims."""

from tests import reference
from tests.samples import NONE, THING, UNIT

WORDS = ["plus", "times", "greater", "less"]
OWN, TOTAL = ("answer", 1, 0), ("take", 1, 0)
ROW_SUM = ("case", ("number", 0), ("plus", TOTAL, OWN))
SUMS = (("Row", ROW_SUM),)


class Numbers:
    """Numbers one behind the other, told by a seed: small ones, also 0 and negative ones."""

    def __init__(self, seed):
        self.seed = seed

    def one(self, many):
        self.seed = (self.seed * 1103515245 + 12345) % 2 ** 31
        return self.seed // 2 ** 10 % many

    def small(self):
        return self.one(9) - 4


def rule_of(kind, numbers):
    """Some rule beside the KIND."""
    if kind == THING:
        return ("take", numbers.small(), numbers.small())
    if kind == UNIT:
        return ("number", numbers.small())
    if kind == NONE:
        return ("none",)
    if kind[0] == "name":
        return ("answer", numbers.small(), numbers.small())
    word = WORDS[numbers.one(4)] if kind[0] == "pair" else "case"
    return (word, rule_of(kind[1], numbers), rule_of(kind[2], numbers))


def algebra_of(book, numbers):
    """Some algebra beside the BOOK."""
    return tuple((name, rule_of(kind, numbers)) for name, kind in book)


def samples_with_rules(samples, most_things=2, most_size=4, times=3):
    """Each sample with a few algebras and rules, and small values."""
    for at, (book, kind) in enumerate(samples):
        values = reference.values(book, kind, most_things, most_size)
        for time in range(times):
            numbers = Numbers(at * 100 + time)
            yield book, algebra_of(book, numbers), kind, rule_of(kind, numbers), values
