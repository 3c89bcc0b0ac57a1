"""Promises 12 and 13: stands, what rooms bear, doors that stand open, rows that aren't met."""

import unittest

from samples import ANYTHING, STAND, great_hall, make_hall, met_by, some_pairs, things_at
from weighdoors.errors import NoName
from weighdoors.halls import Hall
from weighdoors.stands import bears, is_stand, lacks, open_doors


class IsStandTest(unittest.TestCase):
    def test_stands(self):
        hall = make_hall()
        for stand in (STAND, (0, ("yard", "yard"), ("yard", "yard")), (0, ("cave", "tower"), ("ann", "ann")),
                      (1, ("cave", "tower"), ("ann", "bob"))):
            self.assertIs(is_stand(hall, stand), True)
            self.assertIs(is_stand(hall=hall, thing=stand), True)

    def test_anything(self):
        for thing in ANYTHING:
            self.assertIs(is_stand(make_hall(), thing), False)
            for stand in ((thing, *STAND[1:]), (1, thing, STAND[2]), (*STAND[:2], thing),
                          (1, ("cave", thing), STAND[2]), (*STAND[:2], ("bob", thing)), (*STAND, thing)):
                if stand[0] is not thing or thing not in (0, 1) or isinstance(thing, bool):
                    self.assertIs(is_stand(make_hall(), stand), False, stand)

    def test_lists_in_the_place_of_tuples(self):
        for stand in (list(STAND), (1, ["cave", "yard"], STAND[2]), (*STAND[:2], ["bob", "cave"])):
            self.assertIs(is_stand(make_hall(), stand), False)

    def test_turns(self):
        for turn in (True, False, -1, 2, 6, None, "0", "bob", (0,), 10 ** 30):
            self.assertIs(is_stand(make_hall(), (turn, *STAND[1:])), False)

    def test_a_part_more_or_less(self):
        for stand in (STAND[:2], STAND + ((),), (1, ("cave",), STAND[2]), (1, ("cave", "yard", "yard"), STAND[2]),
                      (1, STAND[1], ("bob",)), (1, STAND[1], ("bob", "cave", "cave")), (1, (), ())):
            self.assertIs(is_stand(make_hall(), stand), False)

    def test_names_of_another_sort(self):
        for room in ("gate", "axe", "ann", "bob", "nosuch", "Cave", ""):
            self.assertIs(is_stand(make_hall(), (1, ("cave", room), STAND[2])), False)
        for place in ("gate", "axe", "ball", "nosuch", "Ann", ""):
            self.assertIs(is_stand(make_hall(), (1, STAND[1], ("bob", place))), False)

    def test_hands(self):
        self.assertIs(is_stand(make_hall(), (1, STAND[1], ("bob", "bob"))), False)
        self.assertIs(is_stand(make_hall(), (1, STAND[1], ("ann", "ann"))), True)
        hall = Hall(["a"], [], [("s", 1), ("t", 1), ("u", 1)], [("v", 1, 2), ("w", 1, 0)])
        self.assertIs(is_stand(hall, (0, ("a", "a"), ("v", "v", "a"))), True)
        self.assertIs(is_stand(hall, (0, ("a", "a"), ("v", "v", "v"))), False)
        self.assertIs(is_stand(hall, (0, ("a", "a"), ("w", "a", "a"))), False)

    def test_no_stones(self):
        self.assertIs(is_stand(Hall(["a"], [], [], [("w", 1, 0)]), (0, ("a",), ())), True)

    def test_bounds(self):
        hall = great_hall()
        self.assertEqual(hall.hands("wf"), 9)
        places = ("wf",) * 9 + ("raa",) * 3
        self.assertIs(is_stand(hall, (5, ("raa",) * 6, places)), True)
        self.assertIs(is_stand(hall, (6, ("raa",) * 6, places)), False)
        self.assertIs(is_stand(hall, (5, ("raa",) * 6, ("wf",) * 10 + ("raa",) * 2)), False)

    def test_the_dices_stands(self):
        for hall, stand in some_pairs(100, 12):
            self.assertIs(is_stand(hall, stand), True)


class BearsTest(unittest.TestCase):
    def test_stones_walkers_and_what_these_carry(self):
        hall = make_hall()
        self.assertEqual([bears(hall, STAND, room) for room in ("cave", "tower", "yard")], [5 + 3 + 4, 0, 7])
        stand = (0, ("yard", "yard"), ("ann", "yard"))
        self.assertEqual([bears(hall, stand, room) for room in ("cave", "tower", "yard")], [0, 0, 5 + 7 + 3 + 4])
        self.assertEqual(bears(hall=hall, stand=STAND, room="cave"), 12)
        self.assertIs(type(bears(hall, STAND, "tower")), int)

    def test_bounds(self):
        hall = great_hall()
        self.assertEqual(bears(hall, (0, ("raa",) * 6, ("raa",) * 12), "raa"), 9 * 9999999)

    def test_no_name(self):
        for thing in ANYTHING + ["gate", "ball", "ann", "nosuch"]:
            with self.assertRaises(NoName) as caught:
                bears(make_hall(), STAND, thing)
            self.assertIs(caught.exception.asked, thing)


class DoorsTest(unittest.TestCase):
    def hall(self, least, most):
        return Hall(["a", "b"], [("d", "a", "b", "both", [("a", least, most)]), ("e", "a", "b", "on", [])],
                    [("s", 4)], [("w", 3, 1)])

    def test_a_row_from_least_to_most(self):
        stand = (0, ("a",), ("a",))
        for least, most, is_open in ((7, 7, True), (0, 7, True), (7, None, True), (0, None, True), (8, None, False),
                                     (8, 9, False), (0, 6, False), (6, 6, False), (0, 0, False), (6, 8, True)):
            hall = self.hall(least, most)
            self.assertEqual(open_doors(hall, stand), ["d", "e"] if is_open else ["e"])
            self.assertEqual(lacks(hall, stand, "d"), [] if is_open else [(("a", least, most), 7)])

    def test_nothing_there(self):
        self.assertEqual(open_doors(self.hall(0, 0), (0, ("b",), ("w",))), ["d", "e"])
        self.assertEqual(lacks(self.hall(1, None), (0, ("b",), ("w",)), "d"), [(("a", 1, None), 0)])

    def test_doors_rising_and_doors_without_rows(self):
        self.assertEqual(open_doors(make_hall(), STAND), ["arch", "gate", "slide"])
        self.assertEqual(open_doors(hall=make_hall(), stand=(0, ("tower", "tower"), ("yard", "yard"))),
                         ["arch", "slide"])
        # The tower bears the ball alone, the cave nothing.
        self.assertEqual(open_doors(make_hall(), (0, ("yard", "yard"), ("yard", "tower"))), ["arch", "slide", "trap"])

    def test_lacks_as_all_stand(self):
        hall = make_hall()
        stand = (0, ("yard", "yard"), ("bob", "tower"))
        self.assertEqual(lacks(hall, stand, "gate"), [(("cave", 3, None), 0), (("yard", 0, 12), 15)])
        self.assertEqual(lacks(hall=hall, stand=stand, door="gate", goer=None), lacks(hall, stand, "gate"))
        self.assertEqual(lacks(hall, stand, "trap"), [])
        self.assertEqual(lacks(hall, stand, "arch"), [])
        self.assertIs(type(lacks(hall, stand, "gate")), list)
        self.assertIs(type(lacks(hall, stand, "gate")[0]), tuple)
        self.assertIs(type(lacks(hall, stand, "gate")[0][0]), tuple)

    def test_lacks_without_a_goer_and_what_it_carries(self):
        hall = make_hall()
        stand = (0, ("yard", "yard"), ("bob", "tower"))
        self.assertEqual(lacks(hall, stand, "gate", goer="bob"), [(("cave", 3, None), 0)])
        self.assertEqual(lacks(hall, stand, "gate", goer="ann"), [(("cave", 3, None), 0)])
        self.assertEqual(lacks(hall, STAND, "gate", goer="bob"), [])
        # Bob alone holds the cave's row, in whatever room a goer is.
        stand = (1, ("cave", "tower"), ("bob", "tower"))
        self.assertEqual(lacks(hall, stand, "gate", goer="bob"), [(("cave", 3, None), 0)])
        self.assertEqual(lacks(hall, stand, "gate", goer="ann"), [])
        self.assertEqual(lacks(hall, stand, "trap"), [(("tower", 4, 4), 11)])
        self.assertEqual(lacks(hall, stand, "trap", goer="ann"), [])
        self.assertEqual(lacks(hall, stand, "trap", goer="bob"), [(("tower", 4, 4), 11)])

    def test_the_goer_by_name_alone(self):
        with self.assertRaises(TypeError):
            lacks(make_hall(), STAND, "gate", "bob")

    def test_no_name_of_a_door_first(self):
        for thing in ANYTHING + ["cave", "ball", "ann", "nosuch"]:
            for goer in (None, "ann", "nosuch", []):
                with self.assertRaises(NoName) as caught:
                    lacks(make_hall(), STAND, thing, goer=goer)
                self.assertIs(caught.exception.asked, thing)

    def test_no_name_of_a_goer(self):
        for thing in ANYTHING[1:] + ["cave", "ball", "gate", "nosuch"]:
            for door in ("gate", "arch"):
                with self.assertRaises(NoName) as caught:
                    lacks(make_hall(), STAND, door, goer=thing)
                self.assertIs(caught.exception.asked, thing)

    def test_told_lists_are_new(self):
        hall = make_hall()
        open_doors(hall, STAND).append("x")
        lacks(hall, (0, ("yard", "yard"), ("bob", "tower")), "gate").clear()
        self.assertEqual(open_doors(hall, STAND), ["arch", "gate", "slide"])
        self.assertEqual(hall, make_hall())

    def test_beside_the_slow_model(self):
        for hall, stand in some_pairs(300, 13):
            things = things_at(hall, stand)
            for room in hall.rooms():
                self.assertEqual(bears(hall, stand, room), sum(heft for at, heft in things.values() if at == room))
            met = [door for door in hall.doors() if met_by(hall.door(door)[3], things.values())]
            self.assertEqual(open_doors(hall, stand), met)
            for goer in [None] + hall.walkers():
                others = [thing for name, thing in things.items() if name != goer]
                for door in hall.doors():
                    unmet = [(row, sum(heft for at, heft in others if at == row[0]))
                             for row in hall.door(door)[3] if not met_by([row], others)]
                    self.assertEqual(lacks(hall, stand, door, goer=goer), unmet)


if __name__ == "__main__":
    unittest.main()
