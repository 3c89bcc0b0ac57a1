"""Numbers and the rows of doors as they stand in texts."""

from weighdoors.bounds import MOST_HEFT, MOST_ROWS

FIGURES = "0123456789"
NO_MOST = "-"


def is_number(word, most):
    """Tell whether a word writes a whole number from 0 to most."""
    # The length goes first, as Python reads no numbers of thousands of figures.
    if not 1 <= len(word) <= len(str(most)) or any([sign not in FIGURES for sign in word]):
        return False
    return str(int(word)) == word and int(word) <= most


def show_rows(rows):
    """Tell the words that write the rows of a door, a blank ahead of each."""
    return "".join([f" {room} {least} {show_most(most)}" for room, least, most in rows])


def show_most(most):
    """Tell the word that writes a most."""
    return NO_MOST if most is None else str(most)


def read_rows(words, rooms):
    """Tell the rows of a door that the words write, None where they write none of these rooms."""
    if len(words) % 3 != 0 or len(words) > 3 * MOST_ROWS:
        return None
    rows = [read_row(words[at], words[at + 1], words[at + 2]) for at in range(0, len(words), 3)]
    if None in rows or any([row[0] not in rooms for row in rows]):
        return None
    if any([rows[at][0] >= rows[at + 1][0] for at in range(len(rows) - 1)]):
        return None
    return tuple(rows)


def read_row(room, least, most):
    """Tell the row that three words write, None where the numbers aren't a least and a most."""
    if not is_number(least, MOST_HEFT):
        return None
    if most == NO_MOST:
        return room, int(least), None
    if not is_number(most, MOST_HEFT) or int(most) < int(least):
        return None
    return room, int(least), int(most)
