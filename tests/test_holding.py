"""Promise 13: who holds a door."""

import unittest

from samples import ANYTHING, STAND, make_hall, slow_holders, some_pairs
from weighdoors.errors import NoName
from weighdoors.halls import Hall
from weighdoors.holding import holders


def hall_of(rows):
    """A hall of two rooms with a door of these rows."""
    return Hall(["a", "b"], [("d", "a", "b", "both", rows)],
                [("sa", 1), ("sb", 2), ("sc", 3), ("sd", 0)], [("wb", 1, 4), ("wa", 2, 4)])


class HoldersTest(unittest.TestCase):
    def test_all_least_lots_rising(self):
        stand = (0, ("b", "b"), ("a", "a", "a", "a"))
        self.assertEqual(holders(hall_of([("a", 3, None)]), stand, "d"), [("sa", "sb"), ("sc",)])
        self.assertEqual(holders(hall_of([("a", 4, None)]), stand, "d"), [("sa", "sc"), ("sb", "sc")])
        self.assertEqual(holders(hall_of([("a", 6, None)]), stand, "d"), [("sa", "sb", "sc")])
        self.assertEqual(holders(hall_of([("a", 1, None)]), stand, "d"), [("sa",), ("sb",), ("sc",)])

    def test_lots_meet_all_rows(self):
        hall = hall_of([("a", 3, None), ("b", 2, None)])
        self.assertEqual(holders(hall, (0, ("a", "a"), ("a", "b", "b", "b")), "d"),
                         [("sa", "sb", "wa"), ("sa", "sc", "wa"), ("sb", "wa", "wb"), ("sc", "wa", "wb")])
        self.assertEqual(holders(hall, (0, ("b", "a"), ("a", "b", "b", "b")), "d"),
                         [("sa", "sb", "wa"), ("sa", "sc", "wa")])
        hall = hall_of([("a", 3, None), ("b", 0, None)])
        self.assertEqual(holders(hall, (0, ("b", "a"), ("a", "b", "b", "b")), "d"), [("sa", "wa")])

    def test_a_carried_stone_goes_with_its_walker(self):
        hall = hall_of([("a", 3, None)])
        self.assertEqual(holders(hall, (0, ("a", "a"), ("wb", "wb", "wa", "a")), "d"), [("wa",), ("wb",)])
        self.assertEqual(holders(hall, (0, ("a", "b"), ("wb", "a", "wa", "a")), "d"), [("sb", "wb")])

    def test_a_thing_of_no_heft_is_in_no_least_lot(self):
        stand = (0, ("b", "b"), ("b", "b", "a", "a"))
        self.assertEqual(holders(hall_of([("a", 3, None)]), stand, "d"), [("sc",)])

    def test_one_empty_lot(self):
        stand = (0, ("a", "a"), ("a", "a", "a", "a"))
        self.assertEqual(holders(hall_of([]), stand, "d"), [()])
        self.assertEqual(holders(hall_of([("a", 0, None), ("b", 0, None)]), stand, "d"), [()])
        self.assertEqual(holders(make_hall(), STAND, "arch"), [()])

    def test_no_lot_where_it_does_not_stand_open(self):
        stand = (0, ("a", "a"), ("a", "a", "a", "a"))
        self.assertEqual(holders(hall_of([("a", 10, None)]), stand, "d"), [])
        self.assertEqual(holders(hall_of([("a", 3, None), ("b", 1, None)]), stand, "d"), [])
        self.assertEqual(holders(hall_of([("a", 9, None)]), stand, "d"), [("sa", "sb", "sc", "wa", "wb")])
        # Nor where it bears too much.
        self.assertEqual(holders(hall_of([("a", 3, 8)]), stand, "d"), [])

    def test_ten_things(self):
        stones = [(f"s{letter}", 1) for letter in "abcdef"]
        walkers = [(f"w{letter}", 1, 0) for letter in "dcba"]
        hall = Hall(["a", "b"], [("d", "a", "b", "on", [("a", 5, None)])], stones, walkers)
        lots = holders(hall, (0, ("a",) * 4, ("a",) * 6), "d")
        self.assertEqual(len(lots), 252)
        self.assertEqual(lots, sorted(lots))
        self.assertEqual(lots[0], ("sa", "sb", "sc", "sd", "se"))

    def test_by_names_and_kinds(self):
        stand = (0, ("b", "b"), ("a", "a", "a", "a"))
        hall = hall_of([("a", 3, None)])
        lots = holders(hall=hall, stand=stand, door="d")
        self.assertIs(type(lots), list)
        self.assertIs(type(lots[0]), tuple)
        lots.clear()
        self.assertEqual(len(holders(hall, stand, "d")), 2)

    def test_no_name(self):
        for thing in ANYTHING + ["cave", "ball", "ann", "nosuch"]:
            with self.assertRaises(NoName) as caught:
                holders(make_hall(), STAND, thing)
            self.assertIs(caught.exception.asked, thing)

    def test_beside_the_slow_model(self):
        many = 0
        for hall, stand in some_pairs(600, 14):
            for door in hall.doors():
                if all(most is None for _, _, most in hall.door(door)[3]):
                    found = holders(hall, stand, door)
                    self.assertEqual(found, slow_holders(hall, stand, door))
                    many += len(found) > 1
        self.assertGreater(many, 20)


if __name__ == "__main__":
    unittest.main()
