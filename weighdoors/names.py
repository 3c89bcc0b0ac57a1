"""Whether a thing, of anything, is a name or a whole number."""

LETTERS = "abcdefghijklmnopqrstuvwxyz"
LONGEST_NAME = 8


def is_name(thing):
    """Tell of anything whether it is a text of one to eight small letters."""
    if not isinstance(thing, str) or not 1 <= len(thing) <= LONGEST_NAME:
        return False
    return all([sign in LETTERS for sign in thing])


def is_whole(thing):
    """Tell of anything whether it is a whole number; the truths are none."""
    return isinstance(thing, int) and not isinstance(thing, bool)
