"""What folds tell: of values, and of what stands around a part, which is kept in frames.

An algebra is passed as a dict of its rules by their names. A frame tells what comes of the answer of
the part within it; frames stand from the outermost one on.
"""

from holekinds.values import kind_on_side
from holekinds.ways import is_here, kind_behind, step_kept


def joined(word, first, second):
    """Tell what the word of a pair's rule tells of both parts' numbers."""
    if word == "plus":
        return first + second
    if word == "times":
        return first * second
    if word == "greater":
        return max(first, second)
    return first - second


def fold_told(table, rules, kind, rule, value):
    """Tell what the fold of the rule tells of the value; without recursion, the last part first."""
    told = []
    for one, part in reversed(rules_met(table, rules, kind, rule, value)):
        if one[0] == "take":
            told.append(one[1] * part + one[2])
        elif one[0] == "number":
            told.append(one[1])
        elif one[0] == "answer":
            told.append(one[1] * told.pop() + one[2])
        elif one[0] != "case":
            first = told.pop()
            told.append(joined(one[0], first, told.pop()))
    return told[0]


def rules_met(table, rules, kind, rule, value):
    """List the value's parts, each behind the rule beside it, and ahead of its own parts."""
    met = []
    waiting = [(kind, rule, value)]
    while waiting:
        part_kind, one, part = waiting.pop()
        met.append((one, part))
        word = part_kind[0]
        if word == "name":
            waiting.append((table[part_kind[1]], rules[part_kind[1]], part))
        elif word == "pair":
            waiting.extend([(part_kind[2], one[2], part[2]), (part_kind[1], one[1], part[1])])
        elif word == "either":
            waiting.append((kind_on_side(part_kind, part[0]), kind_on_side(one, part[0]), part[1]))
    return met


def end_told(table, rules, number, frames):
    """Tell what comes of a number in the place that the frames stand around."""
    for frame in reversed(frames):
        word = frame[0]
        if word == "name":
            number = frame[2] * number + frame[3]
        elif word == "behind":
            number = joined(frame[1], number, fold_told(table, rules, frame[2], frame[3], frame[4]))
        elif word == "ahead":
            number = joined(frame[1], frame[2], number)
    return number


def frames_around(table, rules, kind, rule, hole, context):
    """Tell the frames around the spot of the context, and the rule where the hole stands."""
    frames = []
    while not is_here(kind, hole, context):
        if kind[0] == "name":
            frames.append(("name", kind[1], rule[1], rule[2]))
            context = context[1] if kind == hole else context
            kind, rule = table[kind[1]], rules[kind[1]]
        else:
            step, context = step_kept(kind, context)
            frames.append(frame_of(table, rules, kind, rule, step))
            kind, rule = kind_behind(step[0], kind), kind_behind(step[0], rule)
    return frames, rule


def frame_of(table, rules, kind, rule, step):
    """Tell the frame that the step leaves which goes into a pair or an either."""
    word, beside = step
    if word == "first":
        return "behind", rule[0], kind[2], rule[2], beside
    if word == "second":
        return "ahead", rule[0], fold_told(table, rules, kind[1], rule[1], beside)
    return "side", word
