"""Promise 22: what can be come to, and TooMany wherever something is sought."""

import unittest

from manyspots import corridors, full_hall
from samples import STAND, make_hall
from slowplays import graph_of, slow_rationed_moves, some_cases
from weighdoors.errors import TooMany
from weighdoors.halls import Hall
from weighdoors.plays import Play, Rationed
from weighdoors.reaching import reach


class ReachTest(unittest.TestCase):
    def test_rising_and_the_spot_among_it(self):
        hall = Hall(["a", "b", "c"], [("d", "a", "b", "on", []), ("e", "b", "c", "both", [("a", 1, None)])],
                    [("s", 1)], [("w", 2, 1)])
        play = Play(hall, ())
        self.assertEqual(reach(play, (0, ("c",), ("b",))), [(0, ("c",), ("b",))])
        self.assertEqual(reach(play=play, spot=(0, ("b",), ("a",))), [(0, ("b",), ("a",)), (0, ("c",), ("a",))])
        self.assertEqual(reach(play, (0, ("a",), ("w",))), [
            (0, ("a",), ("a",)), (0, ("a",), ("w",)), (0, ("b",), ("a",)), (0, ("b",), ("b",)), (0, ("b",), ("w",)),
            (0, ("c",), ("a",))])
        self.assertIs(type(reach(play, (0, ("c",), ("b",)))), list)

    def test_by_way_of_met_spots(self):
        hall = Hall(["a", "b", "c"], [("d", "a", "b", "on", []), ("e", "b", "c", "on", [])], [], [("w", 2, 1)])
        rooms = [(0, (room,), ()) for room in "abc"]
        for goal in ((), (("at", "w", "b"),), (("at", "w", "a"),)):
            self.assertEqual(reach(Play(hall, goal), rooms[0]), rooms)

    def test_whosever_turn(self):
        hall = make_hall()
        told = reach(Play(hall, ()), STAND)
        for side in ([], ["ann"], ["bob"]):
            self.assertEqual(reach(Play(hall, (), side=side), STAND), told)

    def test_beside_the_slow_model(self):
        for case in some_cases(150, 30):
            play = Play(case.hall, case.goal, **case.options())
            self.assertEqual(reach(play, case.stand), sorted(case.graph))
            self.assertEqual(reach(play, case.stand), sorted(case.graph))
            spot = (case.stand, 1)
            graph = graph_of(lambda spot: slow_rationed_moves(case.hall, spot), spot, 500)
            if graph is not None:
                self.assertEqual(reach(Rationed(case.hall, case.goal, 3), spot), sorted(graph))

    def test_told_lists_are_new(self):
        play = Play(make_hall(), ())
        told = reach(play, STAND)
        reach(play, STAND).clear()
        self.assertEqual(reach(play, STAND), told)


class TooManyTest(unittest.TestCase):
    def refused(self, play, spot, most):
        with self.assertRaises(TooMany) as caught:
            reach(play, spot, most=most)
        self.assertEqual(caught.exception.most, most)

    def test_at_the_number_itself_and_at_one_less(self):
        for case in some_cases(100, 31):
            play = Play(case.hall, case.goal, **case.options())
            many = len(case.graph)
            self.assertEqual(len(reach(play, case.stand, most=many)), many)
            self.assertEqual(len(reach(play, case.stand, most=many + 1)), many)
            for fewer in {1, many // 2, many - 1} - {0, many}:
                self.refused(play, case.stand, fewer)

    def test_one(self):
        hall = Hall(["a"], [], [], [("w", 1, 0)])
        self.assertEqual(reach(Play(hall, ()), (0, ("a",), ()), most=1), [(0, ("a",), ())])
        hall, stand = corridors(2)
        self.refused(Play(hall, ()), stand, 1)

    def test_the_default_of_two_thousand(self):
        hall, stand = corridors(5, 5, 5, 4)
        self.assertEqual(len(reach(Play(hall, ()), stand)), 2000)
        self.refused(Play(hall, ()), stand, 1999)
        hall, stand = corridors(7, 4, 4, 3, 1, 1)
        self.assertEqual(len(reach(Play(hall, ()), stand, most=2016)), 2016)
        with self.assertRaises(TooMany) as caught:
            reach(Play(hall, ()), stand)
        self.assertEqual(caught.exception.most, 2000)

    def test_five_thousand(self):
        hall, stand = corridors(10, 5, 5, 5)
        play = Play(hall, (("at", "wa", "raa"),))
        self.assertEqual(len(reach(play, stand, most=5000)), 5000)
        self.refused(play, stand, 4999)
        self.refused(play, stand, 2000)

    def test_twelve_stones_and_six_walkers(self):
        hall, stand, goal = full_hall()
        self.assertEqual((len(hall), len(hall.doors()), len(hall.stones()), len(hall.walkers())), (40, 60, 12, 6))
        told = reach(Play(hall, goal), stand, most=5000)
        self.assertEqual(len(told), 3600)
        self.assertEqual(told, sorted(told))
        self.refused(Play(hall, goal), stand, 3599)

    def test_far_more_than_most(self):
        # Six walkers each in fifteen rooms: millions of spots, and refused all the same.
        hall, stand = corridors(15, 15, 15, 15, 15, 15)
        self.refused(Play(hall, ()), stand, 5000)


if __name__ == "__main__":
    unittest.main()
