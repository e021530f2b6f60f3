"""Names and KINDs: what they are, and how great a KIND is.

What is asked may be anything, so nothing is compared before its own class is known: only plain
texts and tuples are looked into.
"""

from holekinds.errors import InvalidKind

CAPITALS = "ABCDEFGHIJKLMNOPQRSTUVWXYZ"
SMALL = "abcdefghijklmnopqrstuvwxyz0123456789"
LONGEST_WRITTEN = 8
LONGEST_NAME = 60
DEEPEST = 30
MOST_PARTS = 2000


def is_name(value):
    """Tell whether the value, whatever it is, is a name."""
    if type(value) != str or len(value) > LONGEST_NAME:
        return False
    pieces = value.split("'")
    return is_written(pieces[0]) and all([piece == "" or is_written(piece) for piece in pieces[1:]])


def is_written(text):
    """Tell whether the text is a name as written."""
    if text == "" or len(text) > LONGEST_WRITTEN:
        return False
    return text[0] in CAPITALS and all([sign in SMALL for sign in text[1:]])


def is_kind(value):
    """Tell whether the value, whatever it is, is a KIND."""
    return parts_found(value) is not None


def depth_of_kind(kind):
    """Tell how deep the KIND is."""
    return max([depth for part, depth in parts_known(kind)])


def parts_of_kind(kind):
    """Tell how many parts the KIND has."""
    return len(parts_known(kind))


def names_in(kind):
    """Tell the ascending tuple of the KIND's names."""
    return tuple(sorted(set(names_among(parts_known(kind)))))


def names_among(parts):
    """List the names among a KIND's parts, as often as they stand there."""
    return [part[1] for part, depth in parts if part[0] == "name"]


def parts_known(kind):
    """List the parts of a KIND, each with how deep it is; refuse what is no KIND."""
    found = parts_found(kind)
    if found is None:
        raise InvalidKind(kind)
    return found


def parts_found(value):
    """List the parts of a KIND, each with how deep it is; None for what is no KIND."""
    found = []
    waiting = [(value, 1)]
    while waiting:
        part, depth = waiting.pop()
        inner = kinds_among(part)
        # A tuple that holds one part many times over would have parts without end, so the
        # search ends with the first one too many.
        if inner is None or depth > DEEPEST or len(found) == MOST_PARTS:
            return None
        found.append((part, depth))
        waiting.extend([(one, depth + 1) for one in inner])
    return found


def kinds_among(part):
    """Tell what should be KINDs among the part's elements; None if it has no KIND's form."""
    if type(part) != tuple or len(part) == 0 or type(part[0]) != str:
        return None
    word = part[0]
    if len(part) == 1 and word in ("thing", "none", "unit"):
        return ()
    if len(part) == 2 and word == "name" and is_name(part[1]):
        return ()
    if len(part) == 3 and word in ("pair", "either"):
        return part[1:]
    return None
