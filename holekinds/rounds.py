"""The loop that does any fold: no call within a call, its frames are all that it keeps.

A state is a focus and the frames around it; a round makes the next state.
"""

from holekinds.answers import joined
from holekinds.values import kind_on_side


class Loop:
    """A fold that is done round by round, from a value on."""

    def __init__(self, table, rules, kind, rule, value):
        self.table = table
        self.rules = rules
        self.focus = ("value", kind, rule, value)
        self.frames = []
        self.made = 0

    def has_ended(self):
        """Tell whether the focus is the answer and no frame is left."""
        return self.focus[0] == "answer" and len(self.frames) == 0

    def go_round(self):
        """Make a round."""
        self.made += 1
        if self.focus[0] == "answer":
            self.go_out(self.frames.pop(), self.focus[1])
        else:
            self.go_in(self.focus[1], self.focus[2], self.focus[3])

    def go_in(self, kind, rule, value):
        """Go into the value, or answer it if it has no parts."""
        word = kind[0]
        if word == "thing":
            self.focus = ("answer", rule[1] * value + rule[2])
        elif word == "unit":
            self.focus = ("answer", rule[1])
        elif word == "name":
            self.frames.append(("name", kind[1], rule[1], rule[2]))
            self.focus = ("value", self.table[kind[1]], self.rules[kind[1]], value)
        elif word == "either":
            side, inner = value
            self.frames.append(("side", side))
            self.focus = ("value", kind_on_side(kind, side), kind_on_side(rule, side), inner)
        else:
            self.frames.append(("behind", rule[0], kind[2], rule[2], value[2]))
            self.focus = ("value", kind[1], rule[1], value[1])

    def go_out(self, frame, number):
        """Go out of the frame with the answer, or over to what waits in it."""
        if frame[0] == "behind":
            self.frames.append(("ahead", frame[1], number))
            self.focus = ("value", frame[2], frame[3], frame[4])
        elif frame[0] == "ahead":
            self.focus = ("answer", joined(frame[1], frame[2], number))
        elif frame[0] == "name":
            self.focus = ("answer", frame[2] * number + frame[3])
