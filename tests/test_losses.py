"""Promise 42: what is lost on a way."""

import unittest
from random import Random

from manyspots import corridors, full_hall
from remade import all_from, comes, parts_of, remade, small_cases
from samples import ANYTHING, STAND, make_hall
from slowplays import slow_moves
from weighdoors.errors import NoWay, TooMany
from weighdoors.halls import Hall
from weighdoors.losses import lost

# From a the one door leads to b, the other one to c; b and c lead nowhere but from one to the other.
FORK = Hall(["a", "b", "c", "e"], [("d", "a", "b", "on", []), ("f", "a", "c", "on", []), ("g", "a", "e", "both", []),
                                   ("h", "b", "c", "both", [])], [("s", 1)], [("w", 1, 1)])
A = (0, ("a",), ("a",))
WAIT = ("wait",)


class LostTest(unittest.TestCase):
    def check(self, hall, stand, goal, way, number):
        for kind in (list, tuple):
            told = lost(hall, stand, goal, kind(way))
            self.assertEqual((told, type(told)), (number, type(number)))

    def test_at_none_between_at_the_last_and_never(self):
        goal = (("at", "w", "e"),)
        self.check(FORK, A, goal, [("go", "d"), WAIT], 1)
        self.check(FORK, A, goal, [WAIT, ("go", "g"), ("go", "g"), ("go", "f"), WAIT, ("go", "h")], 4)
        self.check(FORK, A, goal, [WAIT, WAIT, ("go", "f")], 3)
        self.check(FORK, A, goal, [WAIT, ("go", "g"), ("go", "g")], None)
        self.check(FORK, A, goal, [], None)
        self.check(FORK, (0, ("b",), ("a",)), goal, [], 0)
        self.check(FORK, (0, ("b",), ("a",)), goal, [("go", "h"), WAIT], 0)
        self.check(FORK, A, (("open", "nosuch"),), [("go", "d")], 0)
        self.check(FORK, A, (), [("go", "d"), WAIT], None)
        self.assertEqual(lost(hall=FORK, stand=A, goal=goal, way=[("go", "d")], most=50), 1)

    def test_what_was_met_on_the_way_is_lost_all_the_same(self):
        self.check(FORK, A, (("at", "w", "a"),), [WAIT, ("go", "f"), WAIT], 2)
        self.check(FORK, A, (("at", "w", "b"), ("held", "s", "w")), [("lift", "s"), ("go", "d"), ("lay", "s")], None)
        self.check(FORK, A, (("lies", "s", "a"),), [("lift", "s"), ("go", "d"), ("lay", "s")], 2)

    def test_all_walkers_are_asked(self):
        hall = remade(FORK, walkers=[("w", 1, 1), ("v", 1, 1)])
        stand = (0, ("a", "a"), ("a",))
        self.check(hall, stand, (("lies", "s", "e"),), [("go", "d"), WAIT, WAIT, ("go", "f")], 4)
        self.check(hall, stand, (("lies", "s", "e"),), [("lift", "s"), WAIT, ("go", "f")], 3)

    def test_beside_the_slow_model(self):
        dice = Random(140)
        numbers = []
        for case in small_cases(450, 141, most=40):
            # Where doors go on alone more is lost.
            hall = remade(case.hall, doors=[(*door[:3], "on", door[4]) for door in parts_of(case.hall)["doors"]])
            way, spots = [], [case.stand]
            for _ in range(dice.choice([0, 1, 4, 8, 12])):
                deed, _, behind = dice.choice(slow_moves(hall, spots[-1]))
                way.append(deed)
                spots.append(behind)
            number = next((at for at, spot in enumerate(spots) if not comes(hall, spot, case.goal)), None)
            if number and dice.random() < 0.5:
                way = way[:number]
            self.check(hall, case.stand, case.goal, way, number)
            kinds = {None: "never", 0: "at none", len(way): "at the last"}
            numbers.append("at none" if number == 0 else kinds.get(number, "between"))
        for kind in ("never", "at none", "between", "at the last"):
            self.assertGreater(numbers.count(kind), 3, kind)

    def test_where_all_doors_go_both_ways_nothing_is_ever_lost(self):
        dice = Random(142)
        many = 0
        for case in small_cases(150, 143, most=60):
            hall = remade(case.hall, doors=[(*door[:3], "both", door[4]) for door in parts_of(case.hall)["doors"]])
            if not comes(hall, case.stand, case.goal) or len(all_from(hall, case.stand)) > 300:
                continue
            way, spot = [], case.stand
            for _ in range(10):
                deed, _, spot = dice.choice(slow_moves(hall, spot))
                way.append(deed)
            self.check(hall, case.stand, case.goal, way, None)
            many += 1
        self.assertGreater(many, 50)


class NoWayTest(unittest.TestCase):
    def refused(self, hall, stand, way, at, why):
        for kind in (list, tuple):
            for most in (1, 2000):
                for goal in ((), (("open", "nosuch"),)):
                    with self.assertRaises(NoWay) as caught:
                        lost(hall, stand, goal, kind(way), most=most)
                    self.assertEqual((caught.exception.at, caught.exception.why), (at, why))

    def test_ahead_of_too_many(self):
        self.refused(FORK, A, [("go", "h")], 0, "room")
        self.refused(FORK, A, [("go", "d"), ("go", "d")], 1, "room")
        self.refused(FORK, A, [("go", "d"), WAIT, ("lift", "s")], 2, "far")
        self.refused(FORK, A, [("go", "x"), ("go", "h")], 0, "door")
        self.refused(FORK, A, [WAIT, ("lay", "s")], 1, "held")
        self.refused(make_hall(), STAND, [WAIT, ("lift", "ball")], 1, "hands")
        self.refused(make_hall(), STAND, [WAIT, WAIT, WAIT, ("go", "trap")], 3, "shut")

    def test_deeds_of_any_form(self):
        for thing in ANYTHING:
            self.refused(FORK, A, [("go", "d"), thing], 1, "form")


class TooManyTest(unittest.TestCase):
    def test_of_the_hall_from_the_first_stand(self):
        for case in small_cases(60, 144):
            many = len(all_from(case.hall, case.stand))
            # Behind some ways less can be come to, but it is the first stand that counts.
            for way in ([], [WAIT], [slow_moves(case.hall, case.stand)[0][0]]):
                lost(case.hall, case.stand, case.goal, way, most=many)
                if many > 1:
                    with self.assertRaises(TooMany) as caught:
                        lost(case.hall, case.stand, case.goal, way, most=many - 1)
                    self.assertEqual(caught.exception.most, many - 1)
        many = len(all_from(FORK, A))
        self.assertEqual(lost(FORK, A, (("at", "w", "e"),), [("go", "d")], most=many), 1)
        self.assertRaises(TooMany, lost, FORK, A, (("at", "w", "e"),), [("go", "d")], most=many - 1)

    def test_the_default_of_two_thousand(self):
        hall, stand = corridors(5, 5, 5, 4)
        self.assertIsNone(lost(hall, stand, (), [WAIT]))
        hall, stand = corridors(7, 4, 4, 3, 1, 1)
        with self.assertRaises(TooMany) as caught:
            lost(hall, stand, (), [])
        self.assertEqual(caught.exception.most, 2000)
        self.assertRaises(TypeError, lost, FORK, A, (), [], 2000)

    def test_greater_halls(self):
        hall, stand, goal = full_hall()
        self.assertIsNone(lost(hall, stand, goal, [WAIT] * 60, most=5000))
        hall, stand = corridors(10, 5, 5, 5)
        on = remade(hall, doors=[(*door[:3], "on", door[4]) for door in parts_of(hall)["doors"]])
        goal = (("at", "wa", "rae"), ("at", "wb", "raa"))
        self.assertEqual(lost(on, stand, goal, [WAIT], most=5000), 0)
        self.assertEqual(lost(on, stand, (("at", "wb", "rba"),), [("go", "daa"), ("go", "dba")], most=5000), 2)

    def test_the_hall_and_the_way_stay_as_they_were(self):
        hall, way = make_hall(), [("go", "gate"), WAIT]
        self.assertEqual(lost(hall, STAND, (("at", "ann", "yard"),), way), lost(hall, STAND, (("at", "ann", "yard"),), way))
        self.assertEqual((hall, way), (make_hall(), [("go", "gate"), WAIT]))


if __name__ == "__main__":
    unittest.main()
