"""Texts cut into tokens, from left to right, and where they are refused.

A token is told by its form, where it begins and where what is behind it begins. The form of a
sign is the sign itself; a bad sign, and the end of the text, have forms of their own.
"""

from holekinds.errors import InvalidText
from holekinds.kinds import CAPITALS, LONGEST_NAME, LONGEST_WRITTEN, SMALL

SIGNS = "(),|=;*:"
LETTERS = "abcdefghijklmnopqrstuvwxyz"
FIGURES = "0123456789"
LONGEST_WORD = 8
MOST_FIGURES = 400


class Reader:
    """A text and its next token.

    A bad sign is refused only when it is met, as all that stands ahead of it is whole.
    """

    def __init__(self, text):
        self.text = text
        self.form = ""
        self.start = 0
        self.behind = 0
        self.step()

    def step(self):
        """Go on to the next token."""
        self.form, self.start, self.behind = token_from(self.text, self.behind)

    def token(self):
        """Tell the token as it stands in the text."""
        return self.text[self.start:self.behind]

    def taken(self):
        """Tell the token as it stands in the text, and go on to the next one."""
        token = self.token()
        self.step()
        return token

    def take(self, form):
        """Go on to the next token if this one has the form; tell whether it has."""
        if self.form != form:
            return False
        self.step()
        return True

    def expect(self, form):
        """Go on to the next token; refuse the text if this one has another form."""
        if not self.take(form):
            self.refuse()

    def expect_word(self, word):
        """Go on behind the word; refuse the text if another token stands here."""
        if self.token() != word:
            self.refuse()
        self.step()

    def refuse(self):
        """Refuse the text where the token stands."""
        line = self.text.count("\n", 0, self.start) + 1
        raise InvalidText(line, self.start - self.text.rfind("\n", 0, self.start))


def reader_of(text):
    """Tell a reader at the text's first token; refuse what is no text."""
    if type(text) != str:
        raise InvalidText(None, None)
    return Reader(text)


def token_from(text, at):
    """Tell the first token behind a place of the text."""
    at = behind_blanks(text, at)
    if at == len(text):
        return "end", at, at
    sign = text[at]
    if sign in SIGNS:
        return sign, at, at + 1
    if sign in LETTERS:
        return word_from(text, at)
    if sign in CAPITALS:
        return name_from(text, at)
    if sign in FIGURES:
        return number_from(text, at, at)
    if sign == "-" and run_behind(text, at + 1, FIGURES) > at + 1:
        return number_from(text, at, at + 1)
    return bad_at(at)


def bad_at(at):
    """Tell a bad sign; what it breaks off is no token, so it stands there alone."""
    return "bad", at, at


def behind_blanks(text, at):
    """Tell the place behind all blanks, ends of lines and remarks that stand here."""
    while at < len(text) and text[at] in " \n#":
        at = end_of_line(text, at) if text[at] == "#" else at + 1
    return at


def end_of_line(text, at):
    """Tell where the line ends that goes on here."""
    end = text.find("\n", at)
    return len(text) if end == -1 else end


def run_behind(text, at, signs):
    """Tell the place behind the longest row of these signs that stands here."""
    while at < len(text) and text[at] in signs:
        at += 1
    return at


def word_from(text, at):
    """Tell the word that begins here."""
    behind = run_behind(text, at, LETTERS)
    if behind - at > LONGEST_WORD:
        return bad_at(at + LONGEST_WORD)
    return "word", at, behind


def name_from(text, at):
    """Tell the name that begins here, with a capital."""
    behind = at
    written = 0
    while behind < len(text) and does_name_go_on(text[behind], written):
        written = 0 if text[behind] == "'" else written + 1
        if written > LONGEST_WRITTEN or behind - at == LONGEST_NAME:
            return bad_at(behind)
        behind += 1
    return "name", at, behind


def does_name_go_on(sign, written):
    """Tell whether a name goes on with the sign, behind so many signs of a name as written."""
    if sign == "'":
        return True
    return sign in (CAPITALS if written == 0 else SMALL)


def number_from(text, at, first):
    """Tell the number that begins here, its first figure standing at the place told."""
    behind = run_behind(text, first, FIGURES)
    if text[first] == "0" and first > at:
        return bad_at(first)
    if text[first] == "0" and behind > first + 1:
        return bad_at(first + 1)
    if behind - first > MOST_FIGURES:
        return bad_at(first + MOST_FIGURES)
    return "number", at, behind
