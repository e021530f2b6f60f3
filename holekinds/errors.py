"""The errors of the package: each keeps what it is made with, whatever that is.

Their messages are fixed texts: what was passed may be anything, also what cannot be shown.
"""


class HoleError(ValueError):
    """What every error of the package stands under."""


class InvalidKind(HoleError):
    def __init__(self, given):
        super().__init__("no KIND, or one with a name that the BOOK has not")
        self.given = given


class InvalidName(HoleError):
    def __init__(self, given):
        super().__init__("no name")
        self.given = given


class InvalidHole(HoleError):
    def __init__(self, given):
        super().__init__("no HOLE of the BOOK")
        self.given = given


class InvalidValue(HoleError):
    def __init__(self, given):
        super().__init__("no value of the KIND")
        self.given = given


class InvalidNumber(HoleError):
    def __init__(self, given):
        super().__init__("no such whole number is taken here")
        self.given = given


class NoSpot(HoleError):
    def __init__(self, given):
        super().__init__("the path is no spot of the value")
        self.given = given


class NoShape(HoleError):
    def __init__(self, given):
        super().__init__("there are not so many shapes")
        self.given = given


class TooMany(HoleError):
    def __init__(self, given):
        super().__init__("there are too many shapes")
        self.given = given


class InvalidLine(HoleError):
    def __init__(self, given):
        super().__init__("the line is no text")
        self.given = given


class InvalidRule(HoleError):
    def __init__(self, given):
        super().__init__("no rule beside the KIND")
        self.given = given


class NotApart(HoleError):
    def __init__(self, given):
        super().__init__("one of the two paths begins with the other one")
        self.given = given


class InvalidBook(HoleError):
    def __init__(self, index):
        super().__init__("no BOOK")
        self.index = index


class InvalidDeeds(HoleError):
    def __init__(self, index):
        super().__init__("no deeds")
        self.index = index


class InvalidAlgebra(HoleError):
    def __init__(self, index):
        super().__init__("no algebra beside the BOOK")
        self.index = index


class InvalidText(HoleError):
    def __init__(self, line, column):
        super().__init__("the text is refused")
        self.line = line
        self.column = column
