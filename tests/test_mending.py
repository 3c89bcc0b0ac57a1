"""Promise 41: plans mended."""

import unittest
from random import Random

from manyspots import corridors, full_hall
from remade import all_from, small_cases
from samples import ANYTHING, STAND, all_deeds, make_hall
from slowplays import graph_of, slow_bars, slow_forces, slow_met, slow_moves, slow_values
from weighdoors.counting import count_ways, number_of, way_at
from weighdoors.errors import NoReply, TooMany
from weighdoors.halls import Hall
from weighdoors.mending import Mending, mended
from weighdoors.papers import bars, foil, forces, reply
from weighdoors.plays import Play
from weighdoors.reaching import reach
from weighdoors.values import barring, cheapest, forcing, value
from weighdoors.ways import played

LINE = Hall(["a", "b", "c"], [("d", "a", "b", "both", []), ("e", "b", "c", "both", [])], [], [("w", 1, 0)])
A, B, C = [(0, (room,), ()) for room in "abc"]
D, E, WAIT = ("go", "d"), ("go", "e"), ("wait",)
GOAL = (("at", "w", "c"),)
END = ("end",)


def slow_mending_moves(hall, goal, plan, spot):
    """The moves of a spot of the mending play, by the document's words."""
    if spot == ():
        return []
    stand, place = spot
    moves = [(END, len(plan) - place, ())] if slow_met(hall, stand, goal) else []
    for deed, _, behind in slow_moves(hall, stand):
        if place == len(plan):
            moves.append((deed, 1, (behind, place)))
        else:
            moves.append((deed, 0 if plan[place] == deed else 1, (behind, place + 1)))
    return moves


def price_of(plan, way):
    """At which price a way mends a plan."""
    unlike = sum(one != other for one, other in zip(plan, way))
    return unlike + abs(len(plan) - len(way))


def some_plan(hall, stand, dice, most=4):
    """A plan told by the dice: a way with some deeds exchanged for others, perhaps ones that can't be done."""
    plan = []
    for _ in range(dice.randint(0, most)):
        deed, _, stand = dice.choice(slow_moves(hall, stand))
        plan.append(dice.choice([deed, deed, deed, dice.choice(all_deeds(hall)), ("go", "nosuch"), ("lift", "nosuch")]))
    return plan


class MendingTest(unittest.TestCase):
    def test_is_spot(self):
        for kind in (list, tuple):
            play = Mending(LINE, GOAL, kind([D, E]))
            for thing in ((A, 0), (A, 1), (A, 2), (C, 0), (C, 2), ()):
                self.assertIs(play.is_spot(thing), True)
            for thing in (A, (A,), (A, 3), (A, -1), (A, True), (A, False), (A, None), (A, "0"), [A, 0], (list(A), 0), [],
                          ((), 0), (A, 0, 0), (0, A), ((1, ("a",), ()), 0), ((False, ("a",), ()), 0), ((),), END):
                self.assertIs(play.is_spot(thing), False, thing)
            for thing in ANYTHING:
                self.assertIs(play.is_spot(thing), thing == () and isinstance(thing, tuple))
                self.assertIs(play.is_spot((thing, 0)), False)
                self.assertIs(play.is_spot((A, thing)),
                              isinstance(thing, int) and not isinstance(thing, bool) and 0 <= thing <= 2)
        empty = Mending(hall=LINE, goal=GOAL, plan=())
        self.assertIs(empty.is_spot(thing=(A, 0)), True)
        self.assertIs(empty.is_spot((A, 1)), False)
        self.assertIs(empty.is_spot(()), True)

    def test_met_and_ours(self):
        play = Mending(LINE, GOAL, [D, E])
        for spot in ((A, 0), (C, 0), (C, 2), ()):
            self.assertIs(play.met(spot=spot), spot == ())
            self.assertIs(play.ours(spot=spot), True)

    def test_moves(self):
        play = Mending(LINE, GOAL, [D, E])
        self.assertEqual(play.moves((A, 0)), [(D, 0, (B, 1)), (WAIT, 1, (A, 1))])
        self.assertEqual(play.moves(spot=(B, 1)), [(D, 1, (A, 2)), (E, 0, (C, 2)), (WAIT, 1, (B, 2))])
        self.assertEqual(play.moves((B, 0)), [(D, 0, (A, 1)), (E, 1, (C, 1)), (WAIT, 1, (B, 1))])
        # Behind the plan each deed costs one, those of the plan, too, and the place stays.
        self.assertEqual(play.moves((B, 2)), [(D, 1, (A, 2)), (E, 1, (C, 2)), (WAIT, 1, (B, 2))])
        # The end ahead of all other moves where the goal is met, at the price of what is left.
        self.assertEqual(play.moves((C, 0)), [(END, 2, ()), (E, 1, (B, 1)), (WAIT, 1, (C, 1))])
        self.assertEqual(play.moves((C, 1)), [(END, 1, ()), (E, 0, (B, 2)), (WAIT, 1, (C, 2))])
        self.assertEqual(play.moves((C, 2)), [(END, 0, ()), (E, 1, (B, 2)), (WAIT, 1, (C, 2))])
        self.assertEqual(play.moves(()), [])
        self.assertEqual(Mending(LINE, GOAL, ()).moves((A, 0)), [(D, 1, (B, 0)), (WAIT, 1, (A, 0))])
        play.moves((A, 0)).clear()
        self.assertEqual(len(play.moves((A, 0))), 2)

    def test_deeds_that_cant_be_done_and_names_that_arent_there(self):
        play = Mending(LINE, GOAL, [E, ("go", "nosuch"), ("lift", "zz"), ("lay", "w")])
        for place in range(4):
            self.assertEqual(play.moves((A, place)), [(D, 1, (B, place + 1)), (WAIT, 1, (A, place + 1))])

    def test_a_plan_changed_behind_the_call(self):
        plan = [D, E]
        play = Mending(LINE, GOAL, plan)
        plan.append(WAIT)
        plan[0] = WAIT
        self.assertEqual(play.moves((A, 0)), [(D, 0, (B, 1)), (WAIT, 1, (A, 1))])
        self.assertIs(play.is_spot((A, 3)), False)

    def test_beside_the_slow_model(self):
        dice = Random(130)
        told = {"none": 0, "nought": 0, "more": 0}
        for case in small_cases(120, 131, most=40):
            plan = some_plan(case.hall, case.stand, dice)
            play = Mending(case.hall, case.goal, dice.choice([list, tuple])(plan))
            graph = graph_of(lambda spot: slow_mending_moves(case.hall, case.goal, plan, spot), (case.stand, 0))
            self.assertEqual(reach(play, (case.stand, 0)), sorted(graph))
            values = slow_values(graph, lambda spot: spot == (), lambda spot: True)
            for spot in dice.sample(sorted(graph), min(6, len(graph))):
                self.assertIs(play.is_spot(spot), True)
                self.assertEqual(play.moves(spot), graph[spot])
                number = value(play, spot)
                self.assertEqual(number, values[spot])
                told["none" if number is None else "more" if number else "nought"] += 1
                self.check_papers(play, graph, spot, number)
                for length in (0, 1, 2, 4):
                    self.check_ways(play, graph, spot, length)
        self.assertGreater(min(told.values()), 20, told)

    def check_papers(self, play, graph, spot, number):
        paper, forced = barring(play, spot), forcing(play, spot)
        self.assertIs(bars(play, paper), True)
        self.assertIs(forces(play, forced), True)
        self.assertTrue(slow_bars(graph, lambda one: one == (), lambda one: True, paper))
        self.assertTrue(slow_forces(graph, lambda one: one == (), lambda one: True, forced))
        if number != 0:
            self.assertIn((spot, number), paper)
        if number is not None and spot != ():
            self.assertEqual({row[0]: row[1] for row in forced}[spot], number)
            deed, price, behind = reply(play, forced, spot)
            self.assertIn((deed, price, behind), graph[spot])
        self.assertRaises(NoReply, foil, play, paper, spot)

    def check_ways(self, play, graph, spot, length):
        ahead = [((), spot)]
        for _ in range(length):
            ahead = [(way + (deed,), behind) for way, one in ahead for deed, _, behind in graph[one]]
        ways = sorted(way for way, one in ahead if one == ())
        self.assertEqual(count_ways(play, spot, length), len(ways))
        for number in {0, len(ways) // 2, len(ways) - 1}:
            if ways:
                number = max(number, 0)
                self.assertEqual(way_at(play, spot, length, number), ways[number])
                self.assertEqual(number_of(play, spot, ways[number]), number)


class MendedTest(unittest.TestCase):
    def test_a_plan_that_is_a_way_to_the_goal(self):
        for plan in ([D, E], [WAIT, D, WAIT, E], [D, D, D, E], [D, E, E, E], [D, E, WAIT]):
            for kind in (list, tuple):
                self.assertEqual(mended(LINE, A, GOAL, kind(plan)), (0, tuple(plan)))
        self.assertEqual(mended(LINE, C, GOAL, []), (0, ()))
        self.assertEqual(mended(hall=LINE, stand=A, goal=(), plan=[D], most=7), (0, (D,)))

    def test_prices(self):
        self.assertEqual(mended(LINE, A, GOAL, [D]), (1, (D, E)))
        self.assertEqual(mended(LINE, A, GOAL, ()), (2, (D, E)))
        self.assertEqual(mended(LINE, A, GOAL, [WAIT, E])[0], 1)
        self.assertEqual(mended(LINE, A, GOAL, [("go", "x"), D, E, WAIT])[0], 1)
        self.assertEqual(mended(LINE, A, GOAL, [WAIT, WAIT, WAIT, WAIT, WAIT])[0], 2)
        # Longer than all that is needed: to stop early costs as much as is left.
        self.assertEqual(mended(LINE, A, GOAL, [D, E, E])[0], 1)
        self.assertEqual(mended(LINE, A, GOAL, [("lay", "x")] * 5)[0], 5)

    def test_none_where_the_goal_cant_be_come_to(self):
        hall = Hall(["a", "b"], [("d", "a", "b", "on", [])], [], [("w", 1, 0)])
        for plan in ((), [D], [("go", "x"), WAIT]):
            self.assertIsNone(mended(hall, B, (("at", "w", "a"),), plan))
            self.assertIsNone(mended(hall, A, (("open", "nosuch"),), plan))

    def best(self, hall, stand, goal, plan, most):
        """The least price of all ways of at most so many deeds to the goal, each gone through."""
        best, ahead = None, [((), stand)]
        for _ in range(most + 1):
            for way, spot in ahead:
                if slow_met(hall, spot, goal) and (best is None or price_of(plan, way) < best):
                    best = price_of(plan, way)
            ahead = [(way + (deed,), behind) for way, spot in ahead for deed, _, behind in slow_moves(hall, spot)]
        return best

    def check(self, hall, stand, goal, plan):
        told = mended(hall, stand, goal, plan)
        if told is not None:
            self.assertEqual((type(told), len(told), type(told[1])), (tuple, 2, tuple))
            self.assertTrue(slow_met(hall, played(hall, stand, told[1])[-1], goal))
            self.assertEqual(price_of(plan, told[1]), told[0])
            self.assertNotIn(END, told[1])
        return told

    def test_beside_all_ways_gone_through(self):
        dice = Random(132)
        prices = []
        for case in small_cases(150, 133, most=12):
            plan = some_plan(case.hall, case.stand, dice)
            told = self.check(case.hall, case.stand, case.goal, plan)
            best = self.best(case.hall, case.stand, case.goal, plan, 5)
            if told is None or len(plan) + told[0] <= 5:
                self.assertEqual(None if told is None else told[0], best)
            elif best is not None:
                self.assertLessEqual(told[0], best)
            prices.append(None if told is None else told[0])
        for price in (None, 0, 1, 2):
            self.assertGreater(prices.count(price), 5, price)

    def test_beside_the_slow_model(self):
        dice = Random(134)
        for case in small_cases(120, 135, most=60):
            plan = some_plan(case.hall, case.stand, dice, 8)
            kept = list(plan)
            told = self.check(case.hall, case.stand, case.goal, plan)
            graph = graph_of(lambda spot: slow_mending_moves(case.hall, case.goal, plan, spot), (case.stand, 0))
            values = slow_values(graph, lambda spot: spot == (), lambda spot: True)
            self.assertEqual(None if told is None else told[0], values[(case.stand, 0)])
            self.assertEqual(plan, kept)
            self.assertEqual(mended(case.hall, case.stand, case.goal, ())[0] if told else None,
                             value(Play(case.hall, case.goal), case.stand))

    def test_the_mending_play_tells_the_same(self):
        told = cheapest(Mending(LINE, GOAL, [WAIT, D]), (A, 0))
        self.assertEqual((told[0], told[1][-1]), (mended(LINE, A, GOAL, [WAIT, D])[0], END))


class TooManyTest(unittest.TestCase):
    def test_of_the_mending_play(self):
        dice = Random(136)
        for case in small_cases(60, 137, most=40):
            plan = some_plan(case.hall, case.stand, dice)
            many = len(graph_of(lambda spot: slow_mending_moves(case.hall, case.goal, plan, spot), (case.stand, 0)))
            told = mended(case.hall, case.stand, case.goal, plan, most=many)
            self.assertEqual(mended(case.hall, case.stand, case.goal, plan, most=many + 1), told)
            if many > 1:
                with self.assertRaises(TooMany) as caught:
                    mended(case.hall, case.stand, case.goal, plan, most=many - 1)
                self.assertEqual(caught.exception.most, many - 1)

    def test_the_end_counts_and_places_count(self):
        # A, b, c at the places that they can have: a at 0, 1, 2; b at 1, 2; c at 2; and the end.
        self.assertEqual(mended(LINE, A, GOAL, [D, E], most=7), (0, (D, E)))
        self.assertRaises(TooMany, mended, LINE, A, GOAL, [D, E], most=6)
        self.assertIsNone(mended(LINE, A, (("open", "x"),), [D, E], most=6))
        self.assertRaises(TooMany, mended, LINE, A, (("open", "x"),), [D, E], most=5)
        # Met at once, and nothing need be sought.
        self.assertRaises(TooMany, mended, LINE, A, (), [D], most=3)

    def test_the_default_of_two_thousand(self):
        hall, stand = corridors(5, 5, 5, 4)
        self.assertEqual(len(all_from(hall, stand)), 2000)
        self.assertRaises(TooMany, mended, hall, stand, (), [])
        self.assertEqual(mended(hall, stand, (), [], most=2001), (0, ()))
        self.assertIsNone(mended(hall, stand, (("open", "nosuch"),), []))
        with self.assertRaises(TooMany) as caught:
            mended(hall, stand, (), [WAIT])
        self.assertEqual(caught.exception.most, 2000)
        self.assertRaises(TypeError, mended, LINE, A, GOAL, [], 2000)

    def test_a_greater_hall(self):
        hall, stand, goal = full_hall()
        self.assertEqual(mended(hall, stand, goal, [], most=5000)[0], 50)
        hall, stand = corridors(10, 2, 2)
        goal = (("at", "wa", "raj"),)
        plan = [("go", f"da{'abcdefghi'[at // 3]}") if at % 3 == 0 else WAIT for at in range(25)]
        self.assertEqual(mended(hall, stand, goal, plan, most=5000), (0, tuple(plan)))
        self.assertEqual(mended(hall, stand, goal, plan[:20], most=5000)[0], 5)
        self.assertEqual(mended(hall, stand, goal, plan + [WAIT] * 5, most=5000), (0, tuple(plan + [WAIT] * 5)))


class NothingChangedTest(unittest.TestCase):
    def test_the_hall(self):
        hall, plan = make_hall(), [("go", "gate"), ("lay", "axe")]
        goal = (("at", "ann", "cave"), ("lies", "axe", "cave"))
        told = mended(hall, STAND, goal, plan)
        self.assertEqual(told, (0, tuple(plan)))
        self.assertEqual((hall, plan), (make_hall(), [("go", "gate"), ("lay", "axe")]))


if __name__ == "__main__":
    unittest.main()
