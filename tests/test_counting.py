"""Promise 28: counted ways and their numbers."""

import unittest
from random import Random

from manyspots import corridors, full_hall
from samples import ANYTHING, STAND, make_hall
from slowplays import slow_rationed_moves, some_cases
from weighdoors.counting import count_ways, number_of, way_at
from weighdoors.errors import NoNumber
from weighdoors.halls import Hall
from weighdoors.plays import Play, Rationed
from weighdoors.ways import played

# A walker goes between a and b by one door; b is met. Go is less than wait.
PLAY = Play(Hall(["a", "b"], [("d", "a", "b", "both", [])], [], [("w", 1, 0)]), (("at", "w", "b"),))
A = (0, ("a",), ())
GO, WAIT = ("go", "d"), ("wait",)


def all_ways(moves_of, met, spot, length):
    """All ways of so many moves to a met spot, listed one by one."""
    ahead = [((), spot)]
    for _ in range(length):
        ahead = [(way + (deed,), behind) for way, one in ahead for deed, _, behind in moves_of(one)]
    return sorted(way for way, one in ahead if met(one))


def slow_count(moves_of, met, spot, length):
    """How many ways of so many moves lead to a met spot, counted from the first spot on."""
    many = {spot: 1}
    for _ in range(length):
        longer = {}
        for one, number in many.items():
            for _, _, behind in moves_of(one):
                longer[behind] = longer.get(behind, 0) + number
        many = longer
    return sum(number for one, number in many.items() if met(one))


class CountTest(unittest.TestCase):
    def test_no_moves(self):
        for goal, many in (((), 1), ((("at", "ann", "yard"),), 1), ((("at", "ann", "cave"),), 0)):
            told = count_ways(Play(make_hall(), goal), STAND, 0)
            self.assertEqual((told, type(told)), (many, int))
        self.assertEqual(count_ways(play=PLAY, spot=A, length=0), 0)

    def test_met_ones_on_the_way(self):
        # Of two moves from a: go and wait, wait and go; the first one stands in b by its first move.
        self.assertEqual([count_ways(PLAY, A, length) for length in range(5)], [0, 1, 2, 4, 8])
        self.assertEqual([way_at(PLAY, A, 2, number) for number in range(2)], [(GO, WAIT), (WAIT, GO)])

    def test_sixty_moves(self):
        self.assertEqual(count_ways(PLAY, A, 60), 2 ** 59)
        hall = Hall(["a"], [], [], [("w", 1, 0)])
        self.assertEqual(count_ways(Play(hall, ()), A, 60), 1)
        self.assertEqual(count_ways(Play(hall, (("open", "d"),)), A, 60), 0)
        for case in some_cases(40, 50):
            play = Play(case.hall, case.goal, **case.options())
            for length in (0, 1, 2, 3, 17, 59, 60):
                self.assertEqual(count_ways(play, case.stand, length),
                                 slow_count(case.graph.get, case.met, case.stand, length))

    def test_layings_counted(self):
        for case in some_cases(40, 51):
            play = Rationed(case.hall, case.goal, 2)
            for length in (0, 1, 4):
                ways = all_ways(lambda spot: slow_rationed_moves(case.hall, spot), lambda spot: case.met(spot[0]),
                                (case.stand, 1), length)
                self.assertEqual(count_ways(play, (case.stand, 1), length), len(ways))
                for number, way in list(enumerate(ways))[:30]:
                    self.assertEqual(way_at(play, (case.stand, 1), length, number), way)
                    self.assertEqual(number_of(play, (case.stand, 1), way), number)

    def test_other_walkers_turns_are_counted_like_ours(self):
        hall = make_hall()
        goal = (("at", "ann", "cave"),)
        for side in ([], ["ann"], ["bob"], ["ann", "bob"]):
            play = Play(hall, goal, side=side)
            for length in range(5):
                self.assertEqual(count_ways(play, STAND, length), count_ways(Play(hall, goal), STAND, length))
            self.assertEqual(way_at(play, STAND, 3, 1), way_at(Play(hall, goal), STAND, 3, 1))
        still = Play(hall, goal, still=["ann"])
        self.assertEqual(count_ways(still, (1, ("cave", "cave"), STAND[2]), 1), 1)

    def test_prices_change_nothing(self):
        hall = make_hall()
        goal = (("at", "ann", "cave"),)
        self.assertEqual(count_ways(Play(hall, goal, prices=(0, 0, 0, 0)), STAND, 5),
                         count_ways(Play(hall, goal, prices=(9, 1, 99, 0)), STAND, 5))


class NumbersTest(unittest.TestCase):
    def test_beside_all_ways_listed(self):
        told = 0
        for case in some_cases(80, 52):
            play = Play(case.hall, case.goal, **case.options())
            for length in range(5):
                ways = all_ways(case.graph.get, case.met, case.stand, length)
                self.assertEqual(count_ways(play, case.stand, length), len(ways))
                for number in sorted({0, 1, 2, len(ways) // 2, len(ways) - 2, len(ways) - 1}):
                    if 0 <= number < len(ways):
                        self.assertEqual(way_at(play, case.stand, length, number), ways[number])
                        self.assertEqual(number_of(play, case.stand, ways[number]), number)
                        self.assertEqual(number_of(play, case.stand, list(ways[number])), number)
                        told += 1
                for number in (-1, len(ways), len(ways) + 7):
                    self.assertRaises(NoNumber, way_at, play, case.stand, length, number)
        self.assertGreater(told, 500)

    def test_each_once_and_rising(self):
        play = Play(make_hall(), (("at", "ann", "cave"),))
        many = count_ways(play, STAND, 5)
        ways = [way_at(play, STAND, 5, number) for number in range(many)]
        self.assertGreater(many, 30)
        self.assertEqual(ways, sorted(set(ways)))
        for number, way in enumerate(ways):
            self.assertEqual(number_of(play, STAND, way), number)
            self.assertTrue(play.met(played(make_hall(), STAND, way)[-1]))
        self.assertRaises(NoNumber, way_at, play, STAND, 5, many)

    def test_sixty_moves(self):
        dice = Random(53)
        for number in [0, 1, 2 ** 59 - 1] + [dice.randrange(2 ** 59) for _ in range(10)]:
            # All moves but the last one are free: a figure 0 is a go, a figure 1 a wait.
            way = tuple(WAIT if figure == "1" else GO for figure in f"{number:059b}")
            way += (GO,) if way.count(GO) % 2 == 0 else (WAIT,)
            self.assertEqual(way_at(PLAY, A, 60, number), way)
            self.assertEqual(number_of(PLAY, A, way), number)
        for number in (2 ** 59, -1, 10 ** 30):
            self.assertRaises(NoNumber, way_at, PLAY, A, 60, number)

    def test_kinds_and_names(self):
        told = way_at(play=PLAY, spot=A, length=2, number=1)
        self.assertEqual((told, type(told)), ((WAIT, GO), tuple))
        self.assertEqual(number_of(play=PLAY, spot=A, way=[WAIT, GO]), 1)
        self.assertIs(type(number_of(PLAY, A, (GO,))), int)
        met = (0, ("b",), ())
        self.assertEqual((way_at(PLAY, met, 0, 0), number_of(PLAY, met, ()), number_of(PLAY, met, [])), ((), 0, 0))


class NoNumberTest(unittest.TestCase):
    def test_numbers_of_anything(self):
        for thing in ANYTHING + [2, -1, -2, True, False, "0", "1", [0], [1], (0,), {0: 0}, None]:
            if thing not in (0, 1) or isinstance(thing, bool):
                with self.assertRaises(NoNumber) as caught:
                    way_at(PLAY, A, 2, thing)
                self.assertIs(caught.exception.asked, thing)
        for thing in (0, 1, False, None):
            with self.assertRaises(NoNumber) as caught:
                way_at(PLAY, A, 0, thing)
            self.assertIs(caught.exception.asked, thing)

    def refused(self, play, spot, way):
        with self.assertRaises(NoNumber) as caught:
            number_of(play, spot, way)
        self.assertIs(caught.exception.asked, way)

    def test_ways_that_are_not_among_them(self):
        for kind in (list, tuple):
            for way in ((), (WAIT,), (GO, GO), (WAIT, WAIT), (GO, WAIT, GO), (("go", "e"),), (("lift", "s"),),
                        (("go", "d", "d"),), (WAIT,) * 60, (GO,) * 60, (GO,) * 59 + (("lay", "s"),)):
                self.refused(PLAY, A, kind(way))
        # One that can't be done, and one that a still walker doesn't do.
        goal = (("at", "ann", "cave"),)
        self.refused(Play(make_hall(), goal), STAND, (("go", "slide"), WAIT))
        self.refused(Play(make_hall(), goal, still=["ann"]), STAND, (("go", "gate"),))
        self.assertEqual(number_of(Play(make_hall(), goal), STAND, (("go", "gate"),)), 0)

    def test_no_laying_left(self):
        hall = Hall(["a"], [], [("s", 1)], [("w", 1, 1)])
        spot = (0, ("a",), ("w",))
        goal = (("lies", "s", "a"),)
        self.assertEqual(number_of(Rationed(hall, goal, 1), (spot, 1), [("lay", "s")]), 0)
        self.refused(Rationed(hall, goal, 1), (spot, 0), [("lay", "s")])

    def test_deeds_of_any_form(self):
        for thing in ANYTHING + [["go", "d"], "go d", ("go", ["d"]), ["wait"], "wait"]:
            for kind in (list, tuple):
                self.refused(PLAY, A, kind([thing]))
                self.refused(PLAY, A, kind([WAIT, thing, GO]))
                self.refused(PLAY, A, kind([GO, thing]))

    def test_the_way_stays_as_it_was(self):
        way = [WAIT, GO]
        number_of(PLAY, A, way)
        self.assertEqual(way, [WAIT, GO])


class ManySpotsTest(unittest.TestCase):
    def test_many_spots(self):
        hall, stand = corridors(10, 5, 5, 5)
        play = Play(hall, (("at", "wa", "raj"),))
        ways = count_ways(play, stand, 60)
        self.assertEqual(count_ways(play, stand, 32), 0)
        # The other three go about as they like, wa goes on by each of its turns.
        self.assertEqual(count_ways(play, stand, 33), count_ways(Play(hall, (), still=["wa"]), stand, 33))
        way = way_at(play, stand, 60, ways - 1)
        self.assertEqual(number_of(play, stand, way), ways - 1)
        self.assertTrue(play.met(played(hall, stand, way)[-1]))

    def test_twelve_stones_and_six_walkers(self):
        hall, stand, goal = full_hall()
        play = Play(hall, goal)
        self.assertEqual(count_ways(play, stand, 49), 0)
        way = way_at(play, stand, 50, 0)
        self.assertEqual(number_of(play, stand, way), 0)
        self.assertTrue(play.met(played(hall, stand, way)[-1]))


if __name__ == "__main__":
    unittest.main()
