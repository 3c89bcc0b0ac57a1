"""Promise 27: the front of a hall, layings against steps."""

import unittest
from random import Random

from manyspots import corridors, full_hall
from samples import STAND, make_hall
from slowplays import graph_of, slow_met, slow_moves, slow_rationed_moves, some_cases
from weighdoors.errors import TooMany
from weighdoors.fronts import front
from weighdoors.halls import Hall
from weighdoors.plays import Play
from weighdoors.values import value


def short_cuts():
    """A long way of five steps from a to z; what is laid down in a opens shorter ones."""
    doors = [(f"l{one}", one, other, "on", []) for one, other in zip("acdef", "cdefz")]
    doors += [("sa", "a", "g", "on", [("a", 2, 2)]), ("sg", "g", "h", "on", []), ("sh", "h", "z", "on", []),
              ("t", "a", "z", "on", [("a", 5, None)])]
    return Hall(list("acdefghz"), doors, [("p", 2), ("q", 3)], [("w", 1, 2)])


GOAL = (("at", "w", "z"),)


def fewest_steps(hall, spot, goal):
    """With how few steps a met spot is come to in a play with layings counted, or None."""
    layer, gone, steps = {spot}, set(), 0
    while layer:
        if any(slow_met(hall, stand, goal) for stand, _ in layer):
            return steps
        gone |= layer
        layer = {move[2] for one in layer for move in slow_rationed_moves(hall, one)} - gone
        steps += 1
    return None


class FrontTest(unittest.TestCase):
    def test_rows(self):
        hall = short_cuts()
        # No laying: the long way. One: lay p, and three doors. Two: lay both, and one door.
        self.assertEqual(front(hall, (0, ("a",), ("w", "w")), GOAL), [(0, 5), (1, 4), (2, 3)])
        self.assertEqual(front(hall, (0, ("a",), ("a", "w")), GOAL), [(0, 3), (1, 2)])
        self.assertEqual(front(hall, (0, ("a",), ("a", "a")), GOAL), [(0, 1)])
        self.assertEqual(front(hall, (0, ("c",), ("w", "w")), GOAL), [(0, 4)])
        # The goal itself needs a laying.
        self.assertEqual(front(hall=hall, stand=(0, ("e",), ("w", "w")), goal=GOAL + (("lies", "p", "z"),)), [(1, 3)])
        self.assertEqual(front(hall, (0, ("a",), ("w", "w")), GOAL + (("lies", "p", "a"),)), [(1, 4), (2, 3)])

    def test_waits_among_the_steps(self):
        hall = Hall(["a", "b"], [("d", "a", "b", "both", [])], [], [("w", 1, 0), ("v", 1, 0)])
        self.assertEqual(front(hall, (0, ("a", "a"), ()), (("at", "w", "b"),)), [(0, 1)])
        self.assertEqual(front(hall, (1, ("a", "a"), ()), (("at", "w", "b"),)), [(0, 2)])

    def test_met_at_once_and_never(self):
        hall = short_cuts()
        for stand in ((0, ("a",), ("w", "w")), (0, ("z",), ("a", "a"))):
            self.assertEqual(front(hall, stand, ()), [(0, 0)])
            self.assertEqual(front(hall, stand, (("open", "nosuch"),)), [])
        self.assertEqual(front(hall, (0, ("z",), ("w", "w")), GOAL), [(0, 0)])
        self.assertEqual(front(hall, (0, ("z",), ("w", "w")), (("at", "w", "a"),)), [])
        self.assertEqual(front(make_hall(), STAND, (("at", "ann", "yard"),)), [(0, 0)])

    def test_kinds(self):
        told = front(short_cuts(), (0, ("a",), ("w", "w")), GOAL)
        self.assertEqual((type(told), {type(row) for row in told}), (list, {tuple}))
        told.clear()
        self.assertEqual(len(front(short_cuts(), (0, ("a",), ("w", "w")), GOAL)), 3)

    def check(self, hall, stand, goal):
        """The front beside steps sought with layings counted; told is how many rows it has."""
        told = front(hall, stand, goal)
        rows, fewest = [], None
        for layings in range(6):
            steps = fewest_steps(hall, (stand, layings), goal)
            if steps is not None and (fewest is None or steps < fewest):
                rows.append((layings, steps))
                fewest = steps
        self.assertEqual([row for row in told if row[0] < 6], rows)
        self.assertEqual(told[-1][1] if told else None, value(Play(hall, goal), stand))
        return len(told)

    def test_beside_steps_with_layings_counted(self):
        for case in some_cases(150, 55):
            if graph_of(lambda stand: slow_moves(case.hall, stand), case.stand, 100) is not None:
                self.check(case.hall, case.stand, case.goal)

    def test_halls_in_which_layings_save_steps(self):
        dice = Random(57)
        lengths = []
        for _ in range(120):
            rooms = list("abcdefghz")
            doors = [(f"l{one}", one, other, "on", []) for one, other in zip("abcdefgh", "bcdefghz")]
            for name in ("sa", "sb", "sc", "sd"):
                one, other = sorted(dice.sample(rooms, 2))
                doors.append((name, one, other, "on", [(dice.choice("abc"), dice.randint(1, 5), None)]))
            hall = Hall(rooms, doors, [("p", 2), ("q", 3)], [("w", 1, 2)])
            lengths.append(self.check(hall, (0, ("a",), ("w", "w")), GOAL))
        for rows in (1, 2, 3):
            self.assertGreater(lengths.count(rows), 5)


class TooManyTest(unittest.TestCase):
    def test_of_the_halls_play(self):
        for case in some_cases(100, 56):
            many = len(graph_of(lambda stand: slow_moves(case.hall, stand), case.stand))
            told = front(case.hall, case.stand, case.goal, most=many)
            self.assertEqual(front(hall=case.hall, stand=case.stand, goal=case.goal, most=many + 1), told)
            if many > 1:
                with self.assertRaises(TooMany) as caught:
                    front(case.hall, case.stand, case.goal, most=many - 1)
                self.assertEqual(caught.exception.most, many - 1)

    def test_whatever_else_is_so(self):
        hall, stand = corridors(3, 4)
        for goal in ((), (("at", "wb", "rbd"),), (("open", "nosuch"),)):
            front(hall, stand, goal, most=24)
            self.assertRaises(TooMany, front, hall, stand, goal, most=23)

    def test_the_default_of_two_thousand(self):
        hall, stand = corridors(5, 5, 5, 4)
        self.assertEqual(front(hall, stand, (("at", "wd", "rdd"),)), [(0, 12)])
        hall, stand = corridors(7, 4, 4, 3, 1, 1)
        with self.assertRaises(TooMany) as caught:
            front(hall, stand, ())
        self.assertEqual(caught.exception.most, 2000)
        self.assertRaises(TypeError, front, hall, stand, (), 5000)

    def test_twelve_stones_and_six_walkers(self):
        hall, stand, goal = full_hall()
        self.assertEqual(front(hall, stand, goal, most=3600), [(0, 50)])
        self.assertRaises(TooMany, front, hall, stand, goal, most=3599)


if __name__ == "__main__":
    unittest.main()
