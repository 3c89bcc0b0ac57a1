"""Promise 11: the text of a hall."""

import random
import unittest

from samples import ANYTHING, TEXT, great_hall, make_hall, some_hall
from weighdoors.errors import NoText
from weighdoors.halls import Hall
from weighdoors.halltexts import read_hall, show_hall


def changed(at, *rows):
    """The rows of the text, the one at a place exchanged for others."""
    told = TEXT.split("\n")
    return "\n".join(told[:at] + list(rows) + told[at + 1:])


class ShowTest(unittest.TestCase):
    def test_the_text_of_the_document(self):
        hall = Hall(["yard", "cave"], [("gate", "yard", "cave", "both", [("yard", 0, 12), ("cave", 3, None)])],
                    [("ball", 4)], [("ann", 7, 2)])
        text = "room cave\nroom yard\ndoor gate cave yard both cave 3 - yard 0 12\nstone ball 4\nwalker ann 7 2"
        self.assertEqual(show_hall(hall), text)
        self.assertEqual(show_hall(hall=hall), text)

    def test_every_sort_of_door(self):
        self.assertEqual(show_hall(make_hall()), TEXT)
        self.assertIs(type(show_hall(make_hall())), str)

    def test_the_least_hall(self):
        self.assertEqual(show_hall(Hall(["a"], [], [], [("b", 0, 0)])), "room a\nwalker b 0 0")


class ReadTest(unittest.TestCase):
    def test_read_is_what_is_written(self):
        self.assertEqual(read_hall(TEXT), make_hall())
        self.assertEqual(read_hall(text=TEXT), make_hall())
        self.assertIs(type(read_hall(TEXT)), Hall)
        self.assertIs(type(read_hall(TEXT).door("gate")[3]), tuple)

    def test_told_halls_are_new_ones(self):
        self.assertIsNot(read_hall(TEXT), read_hall(TEXT))

    def test_there_and_back(self):
        halls = [make_hall(), great_hall(), Hall(["a"], [], [], [("b", 0, 0)])]
        dice = random.Random(11)
        halls += [some_hall(dice) for _ in range(200)]
        for hall in halls:
            text = show_hall(hall)
            self.assertEqual(read_hall(text), hall)
            self.assertEqual(show_hall(read_hall(text)), text)

    def test_names_that_are_words_of_the_text(self):
        hall = Hall(["room", "both", "on"],
                    [("door", "room", "both", "on", [("on", 0, None), ("both", 1, 1)]),
                     ("wait", "on", "room", "both", [])],
                    [("stone", 0)], [("walker", 9999999, 9), ("abcdefgh", 0, 0), ("z", 1, 1)])
        text = ("room both\nroom on\nroom room\ndoor door room both on both 1 1 on 0 -\ndoor wait on room both\n"
                "stone stone 0\nwalker walker 9999999 9\nwalker abcdefgh 0 0\nwalker z 1 1")
        self.assertEqual(show_hall(hall), text)
        self.assertEqual(read_hall(text), hall)


class RefusedTest(unittest.TestCase):
    def refused(self, text, row):
        with self.assertRaises(NoText) as caught:
            read_hall(text)
        self.assertEqual(caught.exception.row, row, text)
        self.assertIs(type(caught.exception.row), int)

    def test_what_is_no_text(self):
        for thing in [thing for thing in ANYTHING if not isinstance(thing, str)] + [b"room a", [TEXT], tuple(TEXT)]:
            self.refused(thing, 0)

    def test_texts_of_nothing(self):
        for text in ("", "\n", " ", "room", "hello", "\u00e9", "room a b\nwalker w 1 1", "walker w 1 1", "stone s 1"):
            self.refused(text, 0)

    def test_line_feeds_too_many(self):
        self.refused(TEXT + "\n", 11)
        self.refused(TEXT + "\n\n", 11)
        self.refused("\n" + TEXT, 0)
        self.refused(changed(1, "room tower", ""), 2)
        self.refused(TEXT.replace("\n", "\r\n"), 0)
        self.refused(TEXT.replace("\n", "\x0b"), 0)

    def test_blanks(self):
        for at, row in enumerate(TEXT.split("\n")):
            self.refused(changed(at, row.replace(" ", "  ", 1)), at)
            self.refused(changed(at, row + " "), at)
            self.refused(changed(at, " " + row), at)
            self.refused(changed(at, row.replace(" ", "\t", 1)), at)
            self.refused(changed(at, row.replace(" ", "", 1)), at)
            self.refused(changed(at, row.upper()), at)
            self.refused(changed(at, row + " x"), at)

    def test_a_row_twice(self):
        for at, row in enumerate(TEXT.split("\n")):
            self.refused(changed(at, row, row), at + 1)

    def test_a_row_out(self):
        self.refused(changed(0), 3)  # The gate's row needs the cave.
        self.refused(changed(1), 2)  # The arch's row needs the tower.
        self.refused("room a\nroom b\ndoor d a b on c 0 -\nwalker w 1 1", 2)

    def test_rows_exchanged(self):
        rows = TEXT.split("\n")
        for at in range(len(rows) - 2):
            told = rows[:at] + [rows[at + 1], rows[at]] + rows[at + 2:]
            # Exchanged rooms fall behind; so do exchanged kinds and names. At the place of the later one.
            self.refused("\n".join(told), at if at == 2 else at + 1)
        self.assertEqual(read_hall("\n".join(rows[:9] + [rows[10], rows[9]])).walkers(), ["ann", "bob"])
        self.refused("room a\nwalker w 1 1\nstone s 1", 2)
        self.refused("room a\nwalker w 1 1\nroom b", 2)
        self.refused("room a\nstone s 1\nroom b\nwalker w 1 1", 2)

    def test_names_used_twice(self):
        self.refused(changed(3, "door cave tower yard both"), 3)
        self.refused(changed(4, "door arch cave yard both"), 4)
        self.refused(changed(7, "stone cave 3"), 7)
        self.refused(changed(7, "stone gate 3"), 7)
        self.refused(changed(8, "stone axe 4"), 8)
        for name in ("cave", "gate", "ball", "bob"):
            self.refused(changed(10, f"walker {name} 7 2"), 10)

    def test_names_that_are_none(self):
        for name in ("", "Cave", "ca-ve", "ninelette", "a1", "caf\u00e9", "\u00df"):
            self.refused(changed(0, f"room {name}"), 0)
            self.refused(changed(3, f"door {name} tower yard both"), 3)
            self.refused(changed(7, f"stone {name} 3"), 7)
            self.refused(changed(9, f"walker {name} 5 1"), 9)

    def test_doors(self):
        for row in ("door arch", "door arch tower", "door arch tower yard", "door arch tower yard off",
                    "door arch yard tower both", "door arch tower tower both", "door arch tower tower on",
                    "door arch tower axe on", "door arch nosuch yard both", "door arch tower nosuch both",
                    "door arch tower yard both cave", "door arch tower yard both cave 3",
                    "door arch tower yard both cave 3 -  yard 0 12", "door arch tower yard both nosuch 3 -"):
            self.refused(changed(3, row), 3)
        # A door that goes on alone may have its rooms either way about.
        self.assertEqual(read_hall(changed(3, "door arch yard tower on")).door("arch"), ("yard", "tower", "on", ()))

    def test_rows_of_doors(self):
        for rows in ("yard 0 12 cave 3 -", "cave 3 - cave 3 -", "cave 3 - cave 4 -", "cave 3 2", "cave 10 9",
                     "cave - 3", "cave - -", "cave 3 --", "cave 3 None", "cave +3 -", "cave 03 -", "cave 3 04",
                     "cave 10000000 -", "cave 0 10000000", "cave 3 -1", "cave -3 3", "cave 3.0 -", "cave 1_0 -",
                     "cave \u0663 -", "cave \u00b2 -", "cave 3 \u0663", "axe 3 -", "ann 3 -", "cave three -",
                     "cave 3 - yard 0 12 yard 0 12", "cave " + "9" * 5000 + " -", "cave 0 " + "9" * 5000):
            self.refused(changed(4, f"door gate cave yard both {rows}"), 4)
        read = read_hall(changed(4, "door gate cave yard both cave 0 0 yard 9999999 9999999"))
        self.assertEqual(read.door("gate")[3], (("cave", 0, 0), ("yard", 9999999, 9999999)))

    def test_hefts_and_hands(self):
        for number in ("", "-", "-1", "+3", "03", "00", "10000000", "3.", "x", "3,", "\u0663", "\u00b2", "0x3", "1_0",
                       "9" * 5000):
            self.refused(changed(7, f"stone axe {number}"), 7)
            self.refused(changed(9, f"walker bob {number} 1"), 9)
            self.refused(changed(9, f"walker bob 5 {number}"), 9)
        self.refused(changed(9, "walker bob 5 10"), 9)
        self.refused(changed(9, "walker bob 5"), 9)
        self.refused(changed(7, "stone axe"), 7)

    def test_one_part_more_than_a_hall_may_have(self):
        rows = show_hall(great_hall()).split("\n")
        last = [rows[at].split(" ")[0] for at in (39, 99, 111, 117)]
        self.assertEqual(last, ["room", "door", "stone", "walker"])
        self.refused("\n".join(rows[:40] + ["room zz"] + rows[40:]), 40)
        self.refused("\n".join(rows[:100] + ["door zz raa rab both"] + rows[100:]), 100)
        self.refused("\n".join(rows[:112] + ["stone zz 1"] + rows[112:]), 112)
        self.refused("\n".join(rows + ["walker zz 1 1"]), 118)
        self.refused("\n".join(rows[:99] + [rows[99] + " rba 0 -"] + rows[100:]), 99)

    def test_texts_that_end_too_early(self):
        rows = TEXT.split("\n")
        for many in range(1, 9):
            self.refused("\n".join(rows[:many]), many)
        for many in (10, 11):
            self.assertEqual(len(read_hall("\n".join(rows[:many])).walkers()), many - 9)

    def test_the_row_told_is_the_first_that_is_off(self):
        self.refused(changed(4, "door gate cave yard both cave 3") + "\n", 4)
        self.refused("room b\nroom a\nroom", 1)

    def test_rows_ahead_of_the_refused_one_go_on_to_a_hall(self):
        dice = random.Random(5)
        signs = sorted({sign for sign in TEXT} | {"%", "A", "\t"})
        for _ in range(3000):
            at = dice.randrange(len(TEXT))
            text = TEXT[:at] + dice.choice(["", dice.choice(signs), dice.choice(signs) + TEXT[at]]) + TEXT[at + 1:]
            try:
                self.assertEqual(show_hall(read_hall(text)), text)
            except NoText as refusal:
                told = text.split("\n")
                end = ["walker zzzzzzzz 0 0"]
                if 0 < refusal.row:
                    ahead = "\n".join(told[:refusal.row] + end)
                    self.assertEqual(show_hall(read_hall(ahead)), ahead)
                if refusal.row < len(told):
                    self.refused("\n".join(told[:refusal.row + 1]), refusal.row)
                    self.refused("\n".join(told[:refusal.row + 1] + end), refusal.row)


if __name__ == "__main__":
    unittest.main()
