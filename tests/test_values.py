"""Promises 23 to 25 and 27: values, the papers told of them, and cheapest ways."""

import unittest

from manyspots import corridors, full_hall
from samples import STAND, make_hall
from slowplays import graph_of, slow_bars, slow_forces, slow_rationed_moves, slow_values, some_cases
from weighdoors.bounds import LAYINGS
from weighdoors.deeds import done
from weighdoors.errors import TooMany
from weighdoors.halls import Hall
from weighdoors.papers import bars, forces
from weighdoors.plays import Play, Rationed
from weighdoors.ways import played
from weighdoors.values import barring, cheapest, forcing, value


def stair_hall():
    """The stone in a holds the door to c; w needs it there, and v may take it away."""
    return Hall(["a", "b", "c"], [("d", "a", "b", "both", []), ("e", "b", "c", "on", [("a", 2, None)])],
                [("s", 2)], [("w", 1, 1), ("v", 0, 1)])


GOAL = (("at", "w", "c"),)


class ValueTest(unittest.TestCase):
    def worth(self, stand, goal=GOAL, **options):
        return value(Play(stair_hall(), goal, **options), stand)

    def test_fewest_steps_and_the_others_moves_are_paid_too(self):
        # W goes, v waits, w goes.
        self.assertEqual(self.worth((0, ("a", "c"), ("a",))), 3)
        self.assertEqual(self.worth((1, ("a", "c"), ("a",))), 4)
        self.assertEqual(self.worth((0, ("b", "c"), ("a",))), 1)
        # W fetches the stone: lift, go, lay, go, go, and four waits of v between.
        self.assertEqual(self.worth((0, ("b", "c"), ("b",))), 9)
        self.assertEqual(self.worth((0, ("a", "c"), ("a",)), side=["w"], still=["v"]), 3)
        self.assertEqual(self.worth((0, ("a", "c"), ("a",)), side=["w"], prices=(3, 0, 0, 40)), 46)

    def test_prices(self):
        stand = (0, ("b", "c"), ("b",))
        self.assertEqual(self.worth(stand, prices=LAYINGS), 1)
        self.assertEqual(self.worth(stand, prices=(0, 0, 0, 0)), 0)
        # Two of go, two of lift and lay, four of wait: w and v each do a part where that is cheaper.
        self.assertEqual(self.worth(stand, prices=(99, 99, 99, 99)), 9 * 99)
        self.assertEqual(self.worth(stand, prices=(10, 1, 2, 0)), 3 * 10 + 1 + 2)

    def test_none_where_our_side_cant_bring_it_about(self):
        # V in a has the stone, and goes away with it ahead of w where it is not ours and not still.
        stand = (1, ("b", "a"), ("v",))
        self.assertEqual(self.worth(stand), 2)
        self.assertIsNone(self.worth(stand, side=["w"]))
        self.assertEqual(self.worth(stand, side=("w",), still=("v",)), 2)
        self.assertIsNone(self.worth(stand, side=[]))
        self.assertIsNone(self.worth(stand, side=["v"]))
        self.assertEqual(self.worth(stand, side=["v", "w", "v"]), 2)
        self.assertIsNone(self.worth(stand, still=["w"]))
        self.assertIsNone(self.worth((0, ("c", "c"), ("b",)), (("open", "nosuch"),)))
        # On its own turn w is ahead of v.
        self.assertEqual(self.worth((0, ("b", "a"), ("v",)), side=["w"]), 1)

    def test_nought_at_met_spots(self):
        for goal, stand in ((GOAL, (0, ("c", "c"), ("b",))), ((), (1, ("a", "b"), ("w",)))):
            for side in (None, [], ["w"]):
                told = self.worth(stand, goal, side=side)
                self.assertEqual((told, type(told)), (0, int))

    def test_the_interfaces_names(self):
        play = Play(stair_hall(), GOAL)
        stand = (0, ("a", "c"), ("a",))
        self.assertEqual(value(play=play, spot=stand, most=54), 3)
        self.assertIs(type(value(play, stand)), int)
        self.assertEqual(barring(play=play, spot=stand, most=200), barring(play, stand))
        self.assertEqual(forcing(play=play, spot=stand, most=200), forcing(play, stand))
        self.assertEqual(cheapest(play=play, spot=stand, most=200), cheapest(play, stand))
        for ask in (value, barring, forcing, cheapest):
            self.assertRaises(TypeError, ask, play, stand, 200)

    def test_beside_the_slow_model(self):
        told = {"none": 0, "nought": 0, "met": 0, "more": 0, "more against others": 0}
        for case in some_cases(500, 32):
            play = Play(case.hall, case.goal, **case.options())
            values = slow_values(case.graph, case.met, case.ours)
            for spot in sorted(case.graph)[::23] + [case.stand]:
                number = value(play, spot)
                self.assertEqual(number, values[spot])
                if number:
                    told["more"] += 1
                    told["more against others"] += not all(map(case.ours, case.graph))
                else:
                    told["none" if number is None else "met" if case.met(spot) else "nought"] += 1
        self.assertGreater(min(told.values()), 10, told)

    def test_layings_counted_beside_the_slow_model(self):
        for case in some_cases(150, 33):
            for spot in ((case.stand, 0), (case.stand, 2)):
                graph = graph_of(lambda spot: slow_rationed_moves(case.hall, spot), spot, 500)
                if graph is not None:
                    values = slow_values(graph, lambda spot: case.met(spot[0]), lambda spot: True)
                    self.assertEqual(value(Rationed(case.hall, case.goal, 2), spot), values[spot])


class PapersToldTest(unittest.TestCase):
    def check(self, play, spot):
        """The told papers of a spot are let by, and have it with its value."""
        number = value(play, spot)
        paper = barring(play, spot)
        self.assertIs(type(paper), list)
        self.assertIs(bars(play, paper), True)
        if number == 0:
            self.assertEqual(paper, [])
        else:
            self.assertEqual(dict(paper)[spot], number)
        forced = forcing(play, spot)
        self.assertIs(type(forced), list)
        self.assertIs(forces(play, forced), True)
        if number is None or play.met(spot):
            self.assertEqual(forced, [])
        else:
            self.assertEqual({row[0]: row[1] for row in forced}[spot], number)
        self.assertEqual({type(row) for row in paper + forced} - {tuple}, set())
        self.assertEqual((barring(play, spot), forcing(play, spot)), (paper, forced))
        return paper, forced

    def test_beside_the_slow_lookers(self):
        for case in some_cases(250, 34):
            play = Play(case.hall, case.goal, **case.options())
            for spot in sorted(case.graph)[::31] + [case.stand]:
                paper, forced = self.check(play, spot)
                self.assertTrue(slow_bars(case.graph, case.met, case.ours, paper))
                self.assertTrue(slow_forces(case.graph, case.met, case.ours, forced))

    def test_prices_of_nought_where_ranks_still_fall(self):
        many = 0
        for case in some_cases(400, 35):
            play = Play(case.hall, case.goal, prices=(0, 0, 0, 0), side=case.side, still=case.still)
            _, forced = self.check(play, case.stand)
            ranks = {spot: rank for spot, _, rank in forced}
            for spot, number, rank in forced:
                self.assertEqual(number, 0)
                lesser = [play.met(move[2]) or ranks.get(move[2], rank) < rank for move in play.moves(spot)]
                self.assertTrue((any if play.ours(spot) else all)(lesser))
            many += len(forced) > 1
        self.assertGreater(many, 20)

    def test_layings_counted(self):
        hall = Hall(["a", "b"], [("d", "a", "b", "on", [("a", 1, None)])], [("s", 1)], [("w", 1, 1)])
        play = Rationed(hall, (("at", "w", "b"),), 3)
        spot = (0, ("a",), ("w",))
        self.assertIsNone(value(play, (spot, 0)))
        self.assertEqual(value(play, (spot, 1)), 2)
        for left in range(4):
            self.check(play, (spot, left))
        self.assertEqual(dict(barring(play, (spot, 0)))[(spot, 0)], None)

    def test_told_papers_are_new(self):
        play = Play(stair_hall(), GOAL)
        stand = (0, ("a", "c"), ("a",))
        for ask in (barring, forcing):
            told = ask(play, stand)
            ask(play, stand).clear()
            self.assertEqual(ask(play, stand), told)


class CheapestTest(unittest.TestCase):
    def check(self, hall, goal, stand, prices):
        play = Play(hall, goal, prices=prices)
        told = cheapest(play, stand)
        if value(play, stand) is None:
            self.assertIsNone(told)
            return 0
        self.assertEqual((type(told), len(told), type(told[1])), (tuple, 2, tuple))
        stands = played(hall, stand, told[1])
        self.assertEqual(len(set(stands)), len(stands))
        self.assertTrue(play.met(stands[-1]))
        price_of = dict(zip(("go", "lift", "lay", "wait"), prices))
        self.assertEqual(told[0], sum(price_of[deed[0]] for deed in told[1]))
        self.assertEqual(told[0], value(play, stand))
        return len(told[1])

    def test_a_cheapest_way_with_its_value(self):
        stand = (0, ("b", "c"), ("b",))
        self.assertEqual(cheapest(Play(stair_hall(), GOAL, still=["v"]), stand),
                         (9, (("lift", "s"), ("wait",), ("go", "d"), ("wait",), ("lay", "s"), ("wait",),
                              ("go", "d"), ("wait",), ("go", "e"))))
        self.assertEqual(cheapest(Play(stair_hall(), GOAL), (0, ("b", "c"), ("a",))), (1, (("go", "e"),)))

    def test_none_and_met_at_once(self):
        stand = (0, ("c", "c"), ("b",))
        self.assertEqual(cheapest(Play(stair_hall(), GOAL), stand), (0, ()))
        self.assertEqual(cheapest(Play(stair_hall(), ()), STAND[:1] + (("a", "b"), ("v",))), (0, ()))
        self.assertIsNone(cheapest(Play(stair_hall(), (("at", "w", "a"),)), stand))
        self.assertIsNone(cheapest(Play(stair_hall(), (("open", "nosuch"),)), stand))

    def test_beside_the_value(self):
        lengths = []
        for case in some_cases(300, 36):
            for prices in (case.prices, (1, 1, 1, 1), (0, 0, 1, 0), (0, 0, 0, 0)):
                lengths.append(self.check(case.hall, case.goal, case.stand, prices))
        self.assertGreater(max(lengths), 4)

    def test_layings_counted(self):
        hall = Hall(["a", "b"], [("d", "a", "b", "on", [("a", 1, None)])], [("s", 1)], [("w", 1, 1)])
        play = Rationed(hall, (("at", "w", "b"),), 3)
        self.assertEqual(cheapest(play, ((0, ("a",), ("w",)), 2)), (2, (("lay", "s"), ("go", "d"))))
        self.assertIsNone(cheapest(play, ((0, ("a",), ("w",)), 0)))
        for case in some_cases(100, 37):
            play = Rationed(case.hall, case.goal, 2)
            for left in range(3):
                spot = (case.stand, left)
                told = cheapest(play, spot, most=5000)
                if told is None:
                    self.assertIsNone(value(play, spot, most=5000))
                    continue
                stands = played(case.hall, case.stand, told[1])
                self.assertEqual(told[0], len(told[1]))
                self.assertEqual(told[0], value(play, spot, most=5000))
                self.assertTrue(case.met(stands[-1]))
                self.assertLessEqual([deed[0] for deed in told[1]].count("lay"), left)


class TooManyTest(unittest.TestCase):
    def check(self, play, spot, many):
        for ask in (value, barring, forcing, cheapest):
            ask(play, spot, most=many)
            if many > 1:
                with self.assertRaises(TooMany) as caught:
                    ask(play, spot, most=many - 1)
                self.assertEqual(caught.exception.most, many - 1)

    def test_whatever_else_is_so(self):
        hall, stand = corridors(3, 4)
        for goal in ((), (("at", "wb", "rba"),), (("at", "wa", "rac"),), (("open", "nosuch"),)):
            self.check(Play(hall, goal), stand, 2 * 3 * 4)
        for case in some_cases(60, 38):
            self.check(Play(case.hall, case.goal, **case.options()), case.stand, len(case.graph))

    def test_the_default_of_two_thousand(self):
        hall, stand = corridors(5, 5, 5, 4)
        self.assertEqual(value(Play(hall, (("at", "wd", "rdd"),)), stand), 12)
        hall, stand = corridors(7, 4, 4, 3, 1, 1)
        for ask in (value, barring, forcing, cheapest):
            with self.assertRaises(TooMany) as caught:
                ask(Play(hall, ()), stand)
            self.assertEqual(caught.exception.most, 2000)


class ManySpotsTest(unittest.TestCase):
    def test_five_thousand(self):
        hall, stand = corridors(10, 5, 5, 5)
        goal = tuple(("at", f"w{letter}", f"r{letter}{'j' if letter == 'a' else 'e'}") for letter in "abcd")
        play = Play(hall, goal)
        # Nine moves of wa, the first one of all, and all turns between them.
        self.assertEqual(value(play, stand, most=5000), 8 * 4 + 1)
        self.assertEqual(len(cheapest(play, stand, most=5000)[1]), 33)
        self.assertIs(bars(play, barring(play, stand, most=5000)), True)
        self.assertIs(forces(play, forcing(play, stand, most=5000)), True)
        self.assertRaises(TooMany, value, play, stand, most=4999)
        against = Play(hall, goal, side=["wa", "wb", "wc"])
        self.assertIsNone(value(against, stand, most=5000))
        self.assertIs(bars(against, barring(against, stand, most=5000)), True)

    def test_twelve_stones_and_six_walkers(self):
        hall, stand, goal = full_hall()
        play = Play(hall, goal, side=["ann", "bob"])
        number = value(play, stand, most=5000)
        paper, forced = barring(play, stand, most=5000), forcing(play, stand, most=5000)
        self.assertEqual(dict(paper)[stand], number)
        self.assertIs(bars(play, paper), True)
        self.assertIs(forces(play, forced), True)
        # Ann goes by four doors, lifts and comes back, each with the turns of all others; then it is bob's turn.
        self.assertEqual(number, 8 * 6 + 2)
        told = cheapest(Play(hall, goal), stand, most=5000)
        self.assertEqual(told[0], len(told[1]))
        self.assertEqual(played(hall, stand, told[1])[-1][1][1], goal[0][2])
        self.assertRaises(TooMany, value, play, stand, most=3599)


class NothingChangedTest(unittest.TestCase):
    def test_the_hall(self):
        hall = make_hall()
        play = Play(hall, (("at", "ann", "cave"),))
        for ask in (value, barring, forcing, cheapest):
            self.assertEqual(ask(play, STAND), ask(play, STAND))
        self.assertEqual(hall, make_hall())
        self.assertEqual(done(hall, STAND, ("wait",)), (0, *STAND[1:]))


if __name__ == "__main__":
    unittest.main()
