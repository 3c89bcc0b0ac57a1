"""The journal of a book, written and read."""

from weighdoors.book import Book
from weighdoors.bounds import MOST_HEFT
from weighdoors.errors import NoDeed, NoName, NoText
from weighdoors.halltexts import KINDS, read_hall, show_hall
from weighdoors.rowtexts import is_number, read_rows, show_rows
from weighdoors.ways import show_way


def show_book(book):
    """Tell the journal of a book."""
    hall = book.hall_at(moment=0)
    turn, rooms, places = book.stand_at(moment=0)
    rows = [show_hall(hall), f"turn {hall.walkers()[turn]}"]
    rows.extend([f"at {walker} {room}" for walker, room in zip(hall.walkers(), rooms)])
    rows.extend([f"lies {stone} {place}" for stone, place in zip(hall.stones(), places)])
    rows.extend([show_act(act) for act in book.acts()])
    return "\n".join(rows)


def show_act(act):
    """Tell the row of a journal that writes an act."""
    if act[0] == "do":
        return f"do {show_way(act[1:])}"
    if act[0] == "rows":
        return f"rows {act[1]}{show_rows(act[2])}"
    return " ".join([str(part) for part in act])


def read_book(text):
    """Tell the book that a text, of anything, writes."""
    if not isinstance(text, str):
        raise NoText(0)
    rows = text.split("\n")
    many = hall_rows(rows)
    hall = read_hall("\n".join(rows[:many]))
    book = Book(hall, read_stand(hall, rows, many))
    for at in range(many + 1 + len(hall.walkers()) + len(hall.stones()), len(rows)):
        if not is_done(book, rows[at].split(" ")):
            raise NoText(at)
    return book


def hall_rows(rows):
    """Tell how many rows begin as rows of a hall's text, the first ones."""
    many = 0
    while many < len(rows) and rows[many].split(" ")[0] in KINDS:
        many += 1
    return many


def read_stand(hall, rows, first):
    """Tell the stand that the rows from a first one on write."""
    walkers = hall.walkers()
    turn = walkers.index(read_last(rows, first, ["turn"], walkers))
    rooms = [read_last(rows, first + 1 + at, ["at", walker], hall.rooms()) for at, walker in enumerate(walkers)]
    places = []
    for at, stone in enumerate(hall.stones()):
        free = [walker for walker in walkers if places.count(walker) < hall.hands(walker)]
        places.append(read_last(rows, first + 1 + len(walkers) + at, ["lies", stone], hall.rooms() + free))
    return turn, tuple(rooms), tuple(places)


def read_last(rows, at, words, names):
    """Tell the last word of a row that has these words and behind them one of these names, else refuse the row."""
    read = rows[at].split(" ") if at < len(rows) else []
    if read[:-1] != words or read[-1] not in names:
        raise NoText(at)
    return read[-1]


def is_done(book, words):
    """Do the act that the words of a row write, and tell whether they write one that can be done."""
    try:
        if words[0] == "do":
            # What is no deed by its words is refused like one that can't be done.
            book.do(tuple(words[1:]))
            return True
        return is_changed(book, words)
    except NoDeed:
        return False
    except NoName:
        return False


def is_changed(book, words):
    """Make the change that the words of a row write, and tell whether they write one."""
    if words[0] == "heft" and len(words) == 3 and is_number(words[2], MOST_HEFT):
        book.set_heft(words[1], int(words[2]))
        return True
    if words[0] == "rows" and len(words) > 1:
        rows = read_rows(words[2:], book.hall_at().rooms())
        if rows is not None:
            book.set_rows(words[1], rows)
        return rows is not None
    if words[0] == "wall" and len(words) == 2:
        book.wall(words[1])
        return True
    if words[0] == "open" and len(words) == 2:
        book.open_up(words[1])
        return True
    return False
