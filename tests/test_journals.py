"""Promise 47: the journal of a book, written and read."""

import re
import unittest
from random import Random

from samples import ANYTHING, STAND, TEXT, make_hall, some_hall, some_stand
from manyspots import full_hall
from weighdoors.book import Book
from weighdoors.changes import hefted, opened, rowed, walled
from weighdoors.deeds import deeds, done
from weighdoors.errors import NoDeed, NoMore, NoPlan, NoText
from weighdoors.halls import Hall
from weighdoors.halltexts import read_hall, show_hall
from weighdoors.journals import read_book, show_book

BOOK = TEXT + """
turn ann
at bob cave
at ann yard
lies axe bob
lies ball cave
do go gate
heft ball 5
heft ann 0
rows gate cave 3 - yard 0 12
rows slide
rows arch tower 0 0
do lay axe
wall trap
open gate
do lift axe
do wait"""


def make_book():
    """The book of the text BOOK."""
    book = Book(make_hall(), STAND)
    book.do(("go", "gate"))
    book.set_heft("ball", 5)
    book.set_heft("ann", 0)
    book.set_rows("gate", [("yard", 0, 12), ("cave", 3, None)])
    book.set_rows("slide", [])
    book.set_rows("arch", (("tower", 0, 0),))
    book.do(("lay", "axe"))
    book.wall("trap")
    book.open_up("gate")
    book.do(("lift", "axe"))
    book.do(("wait",))
    return book


class ShowTest(unittest.TestCase):
    def test_each_kind_of_act(self):
        self.assertEqual(show_book(make_book()), BOOK)
        self.assertEqual(show_book(book=make_book()), BOOK)

    def test_no_acts_at_all(self):
        book = Book(make_hall(), STAND)
        self.assertEqual(show_book(book), "\n".join(BOOK.split("\n")[:16]))
        book.keep(())
        book.do(("wait",))
        book.back()
        self.assertEqual(show_book(book), "\n".join(BOOK.split("\n")[:16]))

    def test_the_first_hall_and_the_first_stand(self):
        book = Book(Hall(["b", "a"], [], [], [("w", 0, 9)]), (0, ("b",), ()))
        self.assertEqual(show_book(book), "room a\nroom b\nwalker w 0 9\nturn w\nat w b")
        book.set_heft("w", 9999999)
        self.assertEqual(show_book(book), "room a\nroom b\nwalker w 0 9\nturn w\nat w b\nheft w 9999999")

    def test_what_was_taken_back_is_left_out(self):
        book = make_book()
        rows = BOOK.split("\n")
        for many in reversed(range(16, 27)):
            book.back()
            self.assertEqual(show_book(book), "\n".join(rows[:many]))


class ReadTest(unittest.TestCase):
    def check(self, text):
        """The text is a book's; told is the book."""
        book = read_book(text)
        self.assertIs(type(book), Book)
        self.assertEqual(show_book(book), text)
        self.assertRaises(NoMore, book.on)
        self.assertRaises(NoPlan, book.rest)
        self.assertTrue(book == read_book(text=text))
        return book

    def test_read_back(self):
        book = self.check(BOOK)
        self.assertTrue(book == make_book())
        self.assertEqual(book.acts(), make_book().acts())
        self.assertEqual((book.hall_at(), book.stand_at()), (make_book().hall_at(), make_book().stand_at()))
        rows = BOOK.split("\n")
        for many in range(16, 28):
            self.assertEqual(len(self.check("\n".join(rows[:many])).acts()), many - 16)

    def test_names_that_are_words_of_texts(self):
        hall = Hall(["room", "do", "at"], [("door", "do", "room", "both", [("at", 0, None)]), ("rows", "at", "do", "on", [])],
                    [("stone", 1), ("lies", 2), ("turn", 3)], [("walker", 1, 2), ("wait", 0, 0), ("open", 1, 1)])
        book = Book(hall, (2, ("at", "do", "room"), ("walker", "open", "do")))
        book.set_rows("rows", [("room", 1, 5), ("do", 0, None)])
        book.do(("go", "door"))
        book.do(("lay", "lies"))
        book.do(("wait",))
        book.set_heft("turn", 10)
        book.set_heft("wait", 0)
        book.wall("rows")
        book.open_up("door")
        self.assertEqual(show_book(book), """room at
room do
room room
door door do room both at 0 -
door rows at do on
stone lies 2
stone stone 1
stone turn 3
walker walker 1 2
walker wait 0 0
walker open 1 1
turn open
at walker at
at wait do
at open room
lies lies walker
lies stone open
lies turn do
rows rows do 0 - room 1 5
do go door
do lay lies
do wait
heft turn 10
heft wait 0
wall rows
open door""")
        self.assertTrue(self.check(show_book(book)) == book)

    def test_carried_stones(self):
        hall = Hall(["a"], [], [(f"s{letter}", 1) for letter in "abcde"], [("v", 1, 2), ("w", 1, 0), ("u", 1, 9)])
        for places in (("v", "v", "u", "u", "u"), ("u", "v", "a", "v", "u"), ("a",) * 5):
            book = Book(hall, (1, ("a", "a", "a"), places))
            self.assertTrue(self.check(show_book(book)) == book)

    def test_of_the_dices_books(self):
        dice = Random(170)
        for _ in range(80):
            book = some_book(dice)
            again = self.check(show_book(book))
            self.assertTrue(again == book)
            self.assertEqual(again.acts(), book.acts())
            self.assertEqual((again.hall_at(), again.stand_at()), (book.hall_at(), book.stand_at()))
            again.do(("wait",))
            self.assertFalse(again == book)

    def test_a_great_hall(self):
        hall, stand, _ = full_hall()
        book = Book(hall, stand)
        for door in hall.doors():
            book.wall(door)
            book.do(("wait",))
        self.assertTrue(self.check(show_book(book)) == book)


def some_book(dice, many=8):
    """A book told by the dice, perhaps with some acts taken back."""
    hall = some_hall(dice)
    book = Book(hall, some_stand(hall, dice))
    for _ in range(dice.randint(0, many)):
        here = book.hall_at()
        word = dice.choice(["do", "do", "heft", "rows", "wall", "open"])
        if word == "do":
            book.do(dice.choice(deeds(here, book.stand_at())))
        elif word == "heft":
            book.set_heft(dice.choice(here.stones() + here.walkers()), dice.randint(0, 12))
        elif here.doors():
            door = dice.choice(here.doors())
            rows = [(room, 1, dice.choice([None, 1, 20])) for room in here.rooms() if dice.random() < 0.5]
            {"rows": lambda: book.set_rows(door, rows), "wall": lambda: book.wall(door),
             "open": lambda: book.open_up(door)}[word]()
    for _ in range(dice.choice([0, 0, 0, len(book.acts())])):
        book.back()
    return book


class NoTextTest(unittest.TestCase):
    def refused(self, text, row):
        with self.assertRaises(NoText) as caught:
            read_book(text)
        self.assertEqual((caught.exception.row, type(caught.exception.row)), (row, int), text)

    def test_what_is_no_text(self):
        for thing in ANYTHING + [[BOOK], (BOOK,), BOOK.split("\n"), make_book(), make_hall()]:
            if not isinstance(thing, str):
                self.refused(thing, 0)
        for text in ("", "\n", " ", "a", "two words", "turn ann", "do wait", "room", "rooms cave"):
            self.refused(text, 0)

    def test_a_halls_text_with_nothing_behind_it(self):
        self.refused(show_hall(make_hall()), 11)
        rows = BOOK.split("\n")
        for many in range(1, 16):
            self.refused("\n".join(rows[:many]), many)
        self.refused("room a", 1)
        self.refused("room a\nwalker w 1 1", 2)
        self.refused("room a\nwalker w 1 1\nturn w", 3)

    def change(self, at, rows, row=None):
        """The text with other rows in the place of one is refused at that row, or at a told one."""
        own = BOOK.split("\n")
        self.refused("\n".join(own[:at] + rows + own[at + 1:]), at if row is None else row)

    def test_halls_rows_that_are_wrong(self):
        for at, row in ((0, "room Cave"), (1, "room cave"), (3, "door arch yard tower both"), (4, "door gate cave yard both 3"),
                        (5, "door slide tower cave off"), (6, "door trap cave yard on tower 5 4"), (7, "stone axe 03"),
                        (8, "stone ball"), (9, "walker bob 5"), (10, "walker bob 7 2"), (10, "walker ann 7 10"),
                        (2, "rooms yard"), (2, ""), (7, "turn ann"), (9, "turn ann"), (9, "lies axe bob")):
            self.change(at, [row])
            with self.assertRaises(NoText) as caught:
                read_hall("\n".join(BOOK.split("\n")[:at] + [row] + BOOK.split("\n")[at + 1:11]))
            self.assertEqual(caught.exception.row, at)

    def test_a_row_out(self):
        # Where the row behind it can't follow: the walker who has no room, the stone without a place.
        for at in (11, 12, 13, 14, 15):
            self.change(at, [])
        # Without ann there is no turn of hers.
        self.change(10, [], 10)
        self.change(9, [], 11)
        self.change(7, [], 13)
        self.change(8, [], 14)
        self.change(16, [], 21)

    def test_a_row_twice(self):
        own = BOOK.split("\n")
        for at in range(16):
            self.refused("\n".join(own[:at + 1] + own[at:]), at + 1)
        # Acts that can be done twice, and ones that can't.
        read_book("\n".join(own[:18] + own[17:]))
        for at in (22, 23, 25):
            self.refused("\n".join(own[:at + 1] + own[at:]), at + 1)

    def test_turns(self):
        for row in ("turn", "turn cyd", "turn cave", "turn Ann", "turn 1", "turn ann ann", "turn  ann", " turn ann", "turn ann ",
                    "turns ann", "at ann yard", "do wait", "walker ann 1 1", "stone cup 1", "room zoo", ""):
            self.change(11, [row])

    def test_walkers_out_of_order_and_elsewhere(self):
        for row in ("at", "at bob", "at bob nosuch", "at bob gate", "at bob ann", "at bob axe", "at ann cave", "at axe cave",
                    "at bob cave cave", "at  bob cave", "at bob cave ", "at cave bob", "lies axe cave", "turn bob", "do wait"):
            self.change(12, [row])
        self.change(12, ["at ann yard", "at bob cave"])
        self.change(13, ["at ann yard", "at cyd cave"], 14)

    def test_stones_out_of_order_and_in_hands_that_are_full(self):
        for row in ("lies", "lies axe", "lies axe nosuch", "lies axe gate", "lies axe ball", "lies axe axe", "lies ball cave",
                    "lies bob cave", "lies axe cave cave", "lies axe  cave", "lies axe cave ", "held axe bob", "do wait"):
            self.change(14, [row])
        self.change(14, ["lies ball cave", "lies axe bob"])
        self.change(15, ["lies ball bob"])
        read_book(BOOK.replace("lies ball cave", "lies ball ann").split("\ndo ")[0])
        text = "room a\nstone s 1\nstone t 1\nstone u 1\nwalker w 1 2\nwalker v 1 0\nturn w\nat w a\nat v a\nlies s "
        self.refused(text + "v", 9)
        self.refused(text + "w\nlies t v", 10)
        self.refused(text + "w\nlies t w\nlies u w", 11)
        read_book(text + "w\nlies t w\nlies u a")
        read_book(text + "w\nlies t a\nlies u w")

    def test_acts_of_another_form(self):
        for row in ("do", "do ", "do go", "do go gate gate", "do go  gate", " do go gate", "do go gate ", "do wait wait", "go gate",
                    "do Go gate", "do jump gate", "do go gate, wait", "do go Gate", "doing", "", " ", "acts", "turn ann",
                    "at bob cave", "lies axe bob", "room zoo", "door x cave yard both", "walker cyd 1 1", "stone cup 1"):
            self.change(16, [row])
        for row in ("heft", "heft ball", "heft ball 05", "heft ball -1", "heft ball 10000000", "heft ball 5 5", "heft ball five",
                    "heft ball +5", "heft ball  5", "heft ball 5 ", "heft nosuch 5", "heft cave 5", "heft gate 5", "heft ball -",
                    "hefts ball 5", "heft Ball 5", "heft ball " + "9" * 5000):
            self.change(17, [row])
        for row in ("rows", "rows nosuch", "rows cave", "rows ball cave 3 -", "rows gate cave", "rows gate cave 3", "rows gate 3 -",
                    "rows gate cave - 3", "rows gate cave 3 2", "rows gate cave 03 -", "rows gate cave 3 10000000",
                    "rows gate yard 0 12 cave 3 -", "rows gate cave 3 - cave 3 -", "rows gate ball 3 -", "rows gate nosuch 3 -",
                    "rows gate cave 3 - ", "rows gate  cave 3 -", "rows gate ", "row gate cave 3 -", "rows gate cave 3 None"):
            self.change(19, [row])
        for row in ("wall", "wall nosuch", "wall cave", "wall ball", "wall trap trap", "wall  trap", "wall trap ", "walls trap",
                    "open", "open nosuch", "open cave", "open trap trap", "open trap ", "opened trap"):
            self.change(23, [row])

    def test_five_rows(self):
        rooms = "abcde"
        text = "\n".join([f"room {room}" for room in rooms] + ["door x a b both", "walker w 1 1", "turn w", "at w a", "rows x"])
        for many in range(6):
            row = "".join(f" {room} 0 0" for room in rooms[:many])
            if many < 5:
                self.assertEqual(len(read_book(text + row).acts()[0][2]), many)
            else:
                self.refused(text + row, 9)

    def test_an_act_that_cant_be_done(self):
        own = BOOK.split("\n")
        for at, row in ((16, "do go slide"), (16, "do go trap"), (16, "do lift ball"), (16, "do lay axe"), (16, "do go nosuch"),
                        (22, "do lift ball"), (22, "do lay ball"), (25, "do go trap"), (24, "open trap"), (24, "wall trap"),
                        (24, "rows trap")):
            self.change(at, [row])
            self.refused("\n".join(own[:at] + [row]), at)
        # Done ahead of what lets it: the arch is behind whoever goes by the gate, and whoever's turn it is.
        self.refused("\n".join(own[:16] + own[22:23]), 16)
        self.refused("\n".join(own[:17] + ["do go gate", "do go nosuch"]), 18)

    def test_something_at_the_end(self):
        for more in ("\n", "\n\n", "\n ", "\ndo", "\ndo wait\n", "\nturn ann", "\n" + BOOK):
            self.refused(BOOK + more, 27 + more.startswith("\ndo wait"))
        self.refused(BOOK + " ", 26)
        self.refused(BOOK[:-1], 26)
        self.refused(" " + BOOK, 0)
        self.refused("\n" + BOOK, 0)

    def test_cut(self):
        for many in range(len(BOOK)):
            text = BOOK[:many]
            rows = text.split("\n")
            if self.slow_row(text) is None:
                self.assertEqual(show_book(read_book(text)), text)
            else:
                self.refused(text, self.slow_row(text))
                self.assertIn(self.slow_row(text), (len(rows) - 1, len(rows)))

    def slow_row(self, text):
        """The first row that is none of a book's text, row by row; None of a book's text."""
        rows = text.split("\n")
        begins = next((at for at, row in enumerate(rows) if not re.match("(room|door|stone|walker)( |$)", row)), len(rows))
        try:
            hall = read_hall("\n".join(rows[:begins]))
        except NoText as refusal:
            return refusal.row
        walkers, stones = hall.walkers(), hall.stones()
        heads = ["turn"] + [f"at {walker}" for walker in walkers] + [f"lies {stone}" for stone in stones]
        lasts = []
        for at, head in enumerate(heads):
            if begins + at == len(rows):
                return len(rows)
            found = re.fullmatch(head + " ([a-z]+)", rows[begins + at])
            ends = walkers if head == "turn" else hall.rooms()
            if head.startswith("lies"):
                ends = ends + [walker for walker in walkers if lasts[1 + len(walkers):].count(walker) < hall.hands(walker)]
            if found is None or found[1] not in ends:
                return begins + at
            lasts.append(found[1])
        stand = walkers.index(lasts[0]), tuple(lasts[1:1 + len(walkers)]), tuple(lasts[1 + len(walkers):])
        for at in range(begins + len(heads), len(rows)):
            hall, stand = self.slow_act(hall, stand, rows[at])
            if hall is None:
                return at
        return None

    def slow_act(self, hall, stand, row):
        """The hall and the stand behind an act's row, or None twice."""
        number = "(0|[1-9][0-9]{0,6})"
        if re.fullmatch("do (wait|(go|lift|lay) [a-z]{1,8})", row):
            try:
                return hall, done(hall, stand, tuple(row.split(" ")[1:]))
            except NoDeed:
                return None, None
        found = re.fullmatch(f"heft ([a-z]+) {number}", row)
        if found and found[1] in hall.stones() + hall.walkers():
            return hefted(hall, found[1], int(found[2])), stand
        found = re.fullmatch("(wall|open) ([a-z]+)", row)
        if found and found[2] in hall.doors():
            return (walled if found[1] == "wall" else opened)(hall, found[2]), stand
        found = re.fullmatch(f"rows ([a-z]+)((?: [a-z]+ {number} (?:-|{number}))*)", row)
        if found and found[1] in hall.doors():
            words = found[2].split(" ")[1:]
            rows = [(words[at], int(words[at + 1]), None if words[at + 2] == "-" else int(words[at + 2]))
                    for at in range(0, len(words), 3)]
            rooms = [one[0] for one in rows]
            if (rooms == sorted(set(rooms)) and set(rooms) <= set(hall.rooms()) and len(rows) <= 4
                    and all(most is None or least <= most for _, least, most in rows)):
                return rowed(hall, found[1], rows), stand
        return None, None

    def test_the_dices_books_with_something_changed(self):
        dice = Random(171)
        told = []
        for _ in range(500):
            rows = show_book(some_book(dice)).split("\n")
            at = dice.randrange(len(rows))
            words = rows[at].split(" ")
            word = dice.choice(words)
            other = dice.choice([dice.choice(dice.choice(rows).split(" ")), "x", "0", "7", "-", "", "wait", "01"])
            rows = dice.choice([
                rows[:at] + rows[at + 1:], rows[:at] + [rows[at]] + rows[at:], rows[:at], rows[:at] + [" ".join(words[:-1])],
                rows[:at] + [" ".join(other if one == word else one for one in words)] + rows[at + 1:],
                rows[:at] + [" ".join(words + [other])] + rows[at + 1:],
                rows[:at] + rows[at:at + 2][::-1] + rows[at + 2:], rows[:at] + [dice.choice(rows)] + rows[at + 1:],
                rows + [dice.choice(rows)]])
            text = "\n".join(rows)
            row = self.slow_row(text)
            told.append(row)
            if row is None:
                self.assertEqual(show_book(read_book(text)), text)
            else:
                self.refused(text, row)
        self.assertGreater(told.count(None), 40)
        self.assertGreater(len([row for row in told if row is not None]), 200)


if __name__ == "__main__":
    unittest.main()
