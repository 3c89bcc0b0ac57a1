"""Promises 2, 3 and 10: the class Hall."""

import unittest

from samples import ANYTHING, great_hall, make_hall
from weighdoors.errors import NoName
from weighdoors.halls import Hall


def small(**changes):
    """A small hall, with some of its parts exchanged."""
    parts = {
        "rooms": ["b", "a", "c"],
        "doors": [("d", "a", "b", "on", [("a", 1, 2), ("b", 0, None)]), ("e", "b", "a", "both", [])],
        "stones": [("t", 2), ("s", 1)],
        "walkers": [("w", 3, 1), ("v", 4, 2)],
    }
    parts.update(changes)
    return Hall(**parts)


class OrderTest(unittest.TestCase):
    def test_names_rise_but_the_walkers(self):
        hall = make_hall()
        self.assertEqual(hall.rooms(), ["cave", "tower", "yard"])
        self.assertEqual(hall.doors(), ["arch", "gate", "slide", "trap"])
        self.assertEqual(hall.stones(), ["axe", "ball"])
        self.assertEqual(hall.walkers(), ["bob", "ann"])

    def test_doors_are_kept_in_their_order(self):
        hall = make_hall()
        # The lesser room first of a door that goes both ways, its rows rising.
        self.assertEqual(hall.door("gate"), ("cave", "yard", "both", (("cave", 3, None), ("yard", 0, 12))))
        self.assertEqual(hall.door("arch"), ("tower", "yard", "both", ()))
        # As told where it goes on alone.
        self.assertEqual(hall.door("slide"), ("tower", "cave", "on", ()))
        self.assertEqual(hall.door("trap"), ("cave", "yard", "on", (("tower", 4, 4),)))

    def test_the_doors_that_lead_from_a_room(self):
        hall = make_hall()
        self.assertEqual(hall.leads("cave"), [("gate", "yard"), ("trap", "yard")])
        self.assertEqual(hall.leads("tower"), [("arch", "yard"), ("slide", "cave")])
        self.assertEqual(hall.leads("yard"), [("arch", "tower"), ("gate", "cave")])
        hall.leads("yard").clear()
        self.assertEqual(len(hall.leads("yard")), 2)

    def test_hefts_and_hands(self):
        hall = make_hall()
        self.assertEqual([hall.heft(name) for name in ("axe", "ball", "ann", "bob")], [3, 4, 7, 5])
        self.assertEqual([hall.hands(name) for name in ("ann", "bob")], [2, 1])
        self.assertEqual([make_hall().heft(name="axe"), hall.hands(walker="ann")], [3, 2])
        self.assertEqual(hall.door(name="arch"), hall.door("arch"))

    def test_one_order_whatever_order_it_was_made_in(self):
        hall = small()
        other = Hall(
            ("c", "b", "a"),
            (("e", "a", "b", "both", ()), ("d", "a", "b", "on", (("b", 0, None), ("a", 1, 2)))),
            (("s", 1), ("t", 2)),
            (("w", 3, 1), ("v", 4, 2)),
        )
        self.assertEqual(hall, other)
        self.assertEqual(hall.doors(), other.doors())
        self.assertEqual(other.door("d"), ("a", "b", "on", (("a", 1, 2), ("b", 0, None))))
        self.assertEqual(hall.door("e"), other.door("e"))

    def test_bounds(self):
        hall = great_hall()
        self.assertEqual(len(hall), 40)
        self.assertEqual([len(hall.doors()), len(hall.stones()), len(hall.walkers())], [60, 12, 6])
        self.assertEqual(len(hall.door("daa")[3]), 4)
        least = Hall(["a"], [], [], [("abcdefgh", 0, 0)])
        self.assertEqual([len(least), least.heft("abcdefgh"), least.hands("abcdefgh")], [1, 0, 0])

    def test_somewhat_beyond_a_bound_raises_nothing(self):
        rooms = [first + other for first in "abcdefg" for other in "abcdefg"]
        self.assertEqual(len(Hall(rooms, [], [("longstonename", 10000000)], [])), 49)


class EqualTest(unittest.TestCase):
    def test_equal_and_unequal(self):
        self.assertTrue(small() == small())
        self.assertFalse(small() != small())

    def test_halls_that_differ_in_one_thing_alone(self):
        row = ("a", 1, 2)
        door = ("e", "b", "a", "both", [])
        others = [
            small(rooms=["a", "b"]),
            small(rooms=["a", "b", "z"]),
            small(doors=[door]),
            small(doors=[("d", "a", "b", "on", [row, ("b", 0, None)]), ("f", "b", "a", "both", [])]),
            small(doors=[("d", "b", "a", "on", [row, ("b", 0, None)]), door]),
            small(doors=[("d", "a", "c", "on", [row, ("b", 0, None)]), door]),
            small(doors=[("d", "a", "b", "both", [row, ("b", 0, None)]), door]),
            small(doors=[("d", "a", "b", "on", [row]), door]),
            small(doors=[("d", "a", "b", "on", [row, ("c", 0, None)]), door]),
            small(doors=[("d", "a", "b", "on", [row, ("b", 1, None)]), door]),
            small(doors=[("d", "a", "b", "on", [("a", 1, None), ("b", 0, None)]), door]),
            small(doors=[("d", "a", "b", "on", [row, ("b", 0, 0)]), door]),
            small(doors=[("d", "a", "b", "on", [("a", 1, 3), ("b", 0, None)]), door]),
            small(stones=[("s", 1)]),
            small(stones=[("s", 1), ("t", 3)]),
            small(stones=[("s", 1), ("u", 2)]),
            small(walkers=[("w", 3, 1)]),
            small(walkers=[("v", 4, 2), ("w", 3, 1)]),
            small(walkers=[("w", 3, 2), ("v", 4, 2)]),
            small(walkers=[("w", 2, 1), ("v", 4, 2)]),
            small(walkers=[("w", 3, 1), ("x", 4, 2)]),
        ]
        for at, other in enumerate(others):
            self.assertFalse(small() == other, at)
            self.assertTrue(small() != other, at)
            for more in others[:at]:
                self.assertFalse(more == other, at)

    def test_a_stone_is_no_walker(self):
        self.assertFalse(Hall(["a"], [], [("s", 1)], [("w", 1, 0)]) == Hall(["a"], [], [], [("s", 1, 0), ("w", 1, 0)]))

    def test_beside_a_thing_of_another_kind(self):
        for thing in ANYTHING:
            self.assertFalse(small() == thing)
            self.assertTrue(small() != thing)
            self.assertFalse(thing == small())
            self.assertTrue(thing != small())

    def test_told_truths(self):
        self.assertIs(small() == small(), True)
        self.assertIs(small() == 1, False)


class CopyTest(unittest.TestCase):
    def test_what_was_handed_in_changed_behind_the_call(self):
        rows = [("b", 0, None), ("a", 1, 2)]
        parts = [["b", "a"], [("d", "b", "a", "both", rows)], [("t", 2), ("s", 1)], [("w", 3, 1), ("v", 4, 2)]]
        hall = Hall(*parts)
        self.assertEqual(parts, [["b", "a"], [("d", "b", "a", "both", rows)], [("t", 2), ("s", 1)],
                                 [("w", 3, 1), ("v", 4, 2)]])
        self.assertEqual(rows, [("b", 0, None), ("a", 1, 2)])
        rows.append(("c", 1, 1))
        for part in parts:
            part.clear()
        same = Hall(["a", "b"], [("d", "a", "b", "both", [("a", 1, 2), ("b", 0, None)])], [("s", 1), ("t", 2)],
                    [("w", 3, 1), ("v", 4, 2)])
        self.assertEqual(hall, same)
        self.assertEqual([hall.rooms(), hall.doors(), hall.stones(), hall.walkers(), hall.door("d")],
                         [["a", "b"], ["d"], ["s", "t"], ["w", "v"],
                          ("a", "b", "both", (("a", 1, 2), ("b", 0, None)))])

    def test_told_lists_changed_behind_the_call(self):
        hall = small()
        for ask in (hall.rooms, hall.doors, hall.stones, hall.walkers):
            told = ask()
            kept = list(told)
            told.append("x")
            told[0] = "y"
            self.assertEqual(ask(), kept)
            self.assertIsNot(ask(), ask())
        self.assertEqual(hall, small())
        self.assertEqual(len(hall), 3)

    def test_kinds_of_told_values(self):
        for hall in (small(), Hall(("a", "b"), (["d", "a", "b", "on", [["a", 1, 2]]],), (), (("w", 1, 1),))):
            for ask in (hall.rooms, hall.doors, hall.stones, hall.walkers):
                self.assertIs(type(ask()), list)
            self.assertIs(type(hall.door("d")), tuple)
            self.assertIs(type(hall.door("d")[3]), tuple)
            self.assertIs(type(hall.door("d")[3][0]), tuple)
            self.assertIs(type(hall.heft("w")), int)
            self.assertIs(type(hall.hands("w")), int)
            self.assertIs(type(len(hall)), int)


class NoNameTest(unittest.TestCase):
    def refused(self, ask, thing):
        with self.assertRaises(NoName) as caught:
            ask(thing)
        self.assertIs(caught.exception.asked, thing)

    def test_of_anything(self):
        hall = make_hall()
        for thing in ANYTHING + ["nosuch", "cave "]:
            for ask in (hall.door, hall.heft, hall.hands):
                self.refused(ask, thing)

    def test_names_of_another_sort(self):
        hall = make_hall()
        for name in ("cave", "axe", "ann"):
            self.refused(hall.door, name)
        for name in ("cave", "gate"):
            self.refused(hall.heft, name)
        for name in ("cave", "gate", "axe"):
            self.refused(hall.hands, name)


if __name__ == "__main__":
    unittest.main()
