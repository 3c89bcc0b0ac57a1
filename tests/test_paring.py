"""Promise 43: ways pared."""

import unittest
from itertools import product
from random import Random

from manyspots import corridors, full_hall
from remade import small_cases
from samples import ANYTHING, STAND, make_hall, slow_done
from slowplays import graph_of, slow_bars, slow_forces, slow_met, slow_moves, slow_values
from test_mending import some_plan
from weighdoors.counting import count_ways, number_of, way_at
from weighdoors.errors import NotMet, NoWay, TooMany
from weighdoors.halls import Hall
from weighdoors.paring import Paring, pared
from weighdoors.papers import bars, forces, reply
from weighdoors.reaching import reach
from weighdoors.values import barring, forcing, value
from weighdoors.ways import played

LINE = Hall(["a", "b", "c"], [("d", "a", "b", "both", []), ("e", "b", "c", "both", [])], [("s", 1)], [("w", 1, 1)])
A, B, C = [(0, (room,), ("a",)) for room in "abc"]
D, E, WAIT = ("go", "d"), ("go", "e"), ("wait",)
GOAL = (("at", "w", "c"),)


def done_or_not(hall, stand, deed):
    """The stand behind a deed, or the word of why it can't be done."""
    names = {"go": hall.doors(), "lift": hall.stones(), "lay": hall.stones()}
    if deed != WAIT and deed[1] not in names[deed[0]]:
        return "no such"
    return slow_done(hall, stand, deed)


def slow_paring_moves(hall, plan, spot):
    """The moves of a spot of the paring play, by the document's words."""
    stand, place = spot
    if place == len(plan):
        return []
    told = [(WAIT, 0, (done_or_not(hall, stand, WAIT), place + 1))]
    behind = done_or_not(hall, stand, plan[place])
    if plan[place] != WAIT and not isinstance(behind, str):
        told.append((plan[place], 1, (behind, place + 1)))
    return sorted(told)


class ParingTest(unittest.TestCase):
    def test_is_spot(self):
        for kind in (list, tuple):
            play = Paring(LINE, GOAL, kind([D, E]))
            for thing in ((A, 0), (A, 1), (A, 2), (C, 0), (C, 2)):
                self.assertIs(play.is_spot(thing), True)
            for thing in (A, (A,), (A, 3), (A, -1), (A, True), (A, False), (A, None), (A, "0"), [A, 0], (list(A), 0), [],
                          (), ((), 0), (A, 0, 0), (0, A), ((1, ("a",), ("a",)), 0), ((False, ("a",), ("a",)), 0)):
                self.assertIs(play.is_spot(thing), False, thing)
            for thing in ANYTHING:
                self.assertIs(play.is_spot(thing), False)
                self.assertIs(play.is_spot((thing, 0)), False)
                self.assertIs(play.is_spot((A, thing)),
                              isinstance(thing, int) and not isinstance(thing, bool) and 0 <= thing <= 2)
        self.assertIs(Paring(hall=LINE, goal=GOAL, plan=()).is_spot(thing=(A, 0)), True)

    def test_met_at_the_plans_length_alone(self):
        play = Paring(LINE, GOAL, [D, E])
        for stand, place, is_met in ((C, 0, False), (C, 1, False), (C, 2, True), (B, 2, False), (A, 0, False)):
            self.assertIs(play.met((stand, place)), is_met)
            self.assertIs(play.met(spot=(stand, place)), is_met)
            self.assertIs(play.ours(spot=(stand, place)), True)
        self.assertIs(Paring(LINE, GOAL, []).met((C, 0)), True)
        self.assertIs(Paring(LINE, (), [WAIT]).met((A, 0)), False)

    def test_moves(self):
        play = Paring(LINE, GOAL, [D, WAIT, ("lay", "s"), ("lift", "s"), ("go", "nosuch")])
        self.assertEqual(play.moves((A, 0)), [(D, 1, (B, 1)), (WAIT, 0, (A, 1))])
        self.assertEqual(play.moves(spot=(B, 0)), [(D, 1, (A, 1)), (WAIT, 0, (B, 1))])
        # One move where they are alike, where the deed can't be done, and none behind the last place.
        self.assertEqual(play.moves((C, 0)), [(WAIT, 0, (C, 1))])
        self.assertEqual(play.moves((A, 1)), [(WAIT, 0, (A, 2))])
        self.assertEqual(play.moves((A, 2)), [(WAIT, 0, (A, 3))])
        held = (0, ("a",), ("w",))
        self.assertEqual(play.moves((held, 2)), [(("lay", "s"), 1, (A, 3)), (WAIT, 0, (held, 3))])
        self.assertEqual(play.moves((A, 3)), [(("lift", "s"), 1, (held, 4)), (WAIT, 0, (A, 4))])
        self.assertEqual(play.moves((B, 3)), [(WAIT, 0, (B, 4))])
        self.assertEqual(play.moves((A, 4)), [(WAIT, 0, (A, 5))])
        for stand in (A, B, C, held):
            self.assertEqual(play.moves((stand, 5)), [])
            self.assertEqual(Paring(LINE, (), ()).moves((stand, 0)), [])
        play.moves((A, 0)).clear()
        self.assertEqual(len(play.moves((A, 0))), 2)

    def test_a_plan_changed_behind_the_call(self):
        plan = [D, E]
        play = Paring(LINE, GOAL, plan)
        plan.append(WAIT)
        plan[0] = WAIT
        self.assertEqual(play.moves((A, 0)), [(D, 1, (B, 1)), (WAIT, 0, (A, 1))])
        self.assertIs(play.met((C, 2)), True)

    def test_beside_the_slow_model(self):
        dice = Random(150)
        numbers = []
        for case in small_cases(150, 151, most=40):
            plan = some_plan(case.hall, case.stand, dice, 8)
            graph = graph_of(lambda spot: slow_paring_moves(case.hall, plan, spot), (case.stand, 0))
            goal = dice.choice([case.goal, self.goal(case.hall, self.end(case, plan))])
            play = Paring(case.hall, goal, dice.choice([list, tuple])(plan))

            def is_met(spot):
                return spot[1] == len(plan) and slow_met(case.hall, spot[0], goal)

            self.assertEqual(reach(play, (case.stand, 0)), sorted(graph))
            values = self.values(graph, is_met)
            for spot in dice.sample(sorted(graph), min(6, len(graph))):
                self.assertEqual(play.moves(spot), graph[spot])
                number = value(play, spot)
                self.assertEqual(number, values[spot])
                numbers.append(number)
                paper, forced = barring(play, spot), forcing(play, spot)
                self.assertIs(bars(play, paper), True)
                self.assertIs(forces(play, forced), True)
                self.assertTrue(slow_bars(graph, is_met, lambda spot: True, paper))
                self.assertTrue(slow_forces(graph, is_met, lambda spot: True, forced))
                self.assertTrue(number == 0 or (spot, number) in paper)
                if number is not None and not is_met(spot):
                    self.assertIn(reply(play, forced, spot), graph[spot])
                left = len(plan) - spot[1]
                many = count_ways(play, spot, left)
                ways = [way_at(play, spot, left, at) for at in range(many)]
                self.assertEqual(ways, sorted(set(ways)))
                self.assertEqual([number_of(play, spot, way) for way in ways], list(range(many)))
                self.assertEqual(many > 0, number is not None)
                self.assertEqual(count_ways(play, spot, left + 1), 0)
        for number in (None, 0, 1, 2):
            self.assertGreater(numbers.count(number), 5, number)

    def end(self, case, plan):
        """The stand behind all deeds of a plan that can be done, the others being waits."""
        stand = case.stand
        for deed in plan:
            behind = done_or_not(case.hall, stand, deed)
            stand = done_or_not(case.hall, stand, WAIT) if isinstance(behind, str) else behind
        return stand

    def goal(self, hall, stand):
        """The goal that all walkers are where they are, and all stones."""
        wishes = [("at", walker, room) for walker, room in zip(hall.walkers(), stand[1])]
        return tuple(wishes + [("lies" if place in hall.rooms() else "held", stone, place)
                               for stone, place in zip(hall.stones(), stand[2])])

    def values(self, graph, is_met):
        """The values where spots behind the last place have no moves."""
        full = {spot: moves or [(WAIT, 0, spot)] for spot, moves in graph.items()}
        return slow_values(full, is_met, lambda spot: True)


class ParedTest(unittest.TestCase):
    def check(self, hall, stand, goal, way, number):
        for kind in (list, tuple):
            told = pared(hall, stand, goal, kind(way))
            self.assertEqual((type(told), len(told), type(told[1])), (tuple, 2, tuple))
            self.assertEqual((told[0], type(told[0])), (number, int))
            self.assertEqual(len(told[1]), len(way))
            self.assertEqual(sum(deed != WAIT for deed in told[1]), number)
            self.assertTrue(all(deed in (own, WAIT) for deed, own in zip(told[1], way)))
            self.assertTrue(slow_met(hall, played(hall, stand, told[1])[-1], goal))
        return told[1]

    def test_ways(self):
        self.check(LINE, A, GOAL, [D, E], 2)
        self.assertEqual(self.check(LINE, A, GOAL, [("lift", "s"), D, ("lay", "s"), E], 2), (WAIT, D, WAIT, E))
        self.check(LINE, A, GOAL, [D, D, D, E, E, E, WAIT], 2)
        self.check(LINE, A, (("at", "w", "a"),), [D, E, E, D], 0)
        self.assertEqual(self.check(LINE, A, (("lies", "s", "b"),), [D, D, ("lift", "s"), D, ("lay", "s"), E], 3),
                         (WAIT, WAIT, ("lift", "s"), D, ("lay", "s"), WAIT))
        told = pared(hall=LINE, stand=A, goal=GOAL, way=[D, E], most=6)
        self.assertEqual(told, (2, (D, E)))

    def test_waits_alone_and_the_empty_way(self):
        for goal, stand in (((), A), (GOAL, C)):
            self.assertEqual(pared(LINE, stand, goal, [WAIT] * 5), (0, (WAIT,) * 5))
            self.assertEqual(pared(LINE, stand, goal, []), (0, ()))
            self.assertEqual(pared(LINE, stand, goal, ()), (0, ()))

    def test_other_deeds_than_the_ways_own_are_no_help(self):
        # Straight to c there is a shorter way, but none of this way's deeds goes there.
        hall = Hall(["a", "b", "c"], [("d", "a", "b", "both", []), ("e", "b", "c", "both", []), ("f", "a", "c", "on", [])],
                    [], [("w", 1, 0)])
        self.check(hall, (0, ("a",), ()), GOAL, [D, E], 2)
        self.check(hall, (0, ("a",), ()), GOAL, [D, E, E, D, ("go", "f")], 1)

    def test_the_others_turns_are_deeds_like_all(self):
        hall = make_hall()
        way = [("go", "gate"), ("lay", "axe"), ("lift", "ball"), WAIT]
        self.check(hall, STAND, (("at", "ann", "cave"),), way, 1)
        self.check(hall, STAND, (("held", "ball", "ann"),), way, 2)
        self.check(hall, STAND, (("lies", "axe", "cave"),), way, 1)

    def test_beside_all_ways_that_are_left(self):
        dice = Random(152)
        numbers = []
        for case in small_cases(300, 153, most=60):
            way, spot = [], case.stand
            for _ in range(dice.randint(0, 7)):
                deed, _, spot = dice.choice(slow_moves(case.hall, spot))
                way.append(deed)
            goal = case.goal if slow_met(case.hall, spot, case.goal) else ParingTest().goal(case.hall, spot)
            least = min(sum(kept) for kept in product((0, 1), repeat=len(way))
                        if self.leads(case.hall, case.stand, goal, way, kept))
            less = sum(deed == WAIT and kept for deed, kept in zip(way, [1] * len(way)))
            numbers.append(least)
            self.check(case.hall, case.stand, goal, way, least)
            self.assertLessEqual(least, len(way) - less)
        for number in (0, 1, 2):
            self.assertGreater(numbers.count(number), 10, number)

    def leads(self, hall, stand, goal, way, kept):
        """Whether the kept deeds of a way, the others being waits, lead to the goal."""
        if any(one and deed == WAIT for deed, one in zip(way, kept)):
            return False
        for deed, one in zip(way, kept):
            stand = done_or_not(hall, stand, deed if one else WAIT)
            if isinstance(stand, str):
                return False
        return slow_met(hall, stand, goal)

    def test_the_hall_and_the_way_stay_as_they_were(self):
        way = [D, E, WAIT]
        pared(LINE, A, GOAL, way)
        self.assertEqual(way, [D, E, WAIT])


class RefusalsTest(unittest.TestCase):
    def no_way(self, way, at, why, goal=GOAL):
        for kind in (list, tuple):
            for most in (1, 2000):
                with self.assertRaises(NoWay) as caught:
                    pared(LINE, A, goal, kind(way), most=most)
                self.assertEqual((caught.exception.at, caught.exception.why), (at, why))

    def test_no_way_first(self):
        for goal in (GOAL, (), (("open", "nosuch"),)):
            self.no_way([E], 0, "room", goal)
            self.no_way([D, ("lift", "s")], 1, "far", goal)
            self.no_way([D, E, ("go", "x"), E], 2, "door", goal)
            self.no_way([("lay", "s")], 0, "held", goal)
            for thing in ANYTHING:
                self.no_way([D, thing], 1, "form", goal)

    def test_then_not_met(self):
        for way, goal in (([], GOAL), ([D], GOAL), ([D, E, E], GOAL), ([D, E], (("open", "nosuch"),)),
                          ([WAIT] * 3, GOAL), ([D, E], (("at", "w", "b"),))):
            for most in (1, 2000):
                self.assertRaises(NotMet, pared, LINE, A, goal, way, most=most)

    def test_then_too_many(self):
        dice = Random(154)
        for case in small_cases(80, 155, most=40):
            way, spot = [], case.stand
            for _ in range(dice.randint(0, 6)):
                deed, _, spot = dice.choice(slow_moves(case.hall, spot))
                way.append(deed)
            many = len(graph_of(lambda spot: slow_paring_moves(case.hall, way, spot), (case.stand, 0)))
            told = pared(case.hall, case.stand, (), way, most=many)
            self.assertEqual(told, (0, (WAIT,) * len(way)))
            if many > 1:
                with self.assertRaises(TooMany) as caught:
                    pared(case.hall, case.stand, (), way, most=many - 1)
                self.assertEqual(caught.exception.most, many - 1)

    def test_the_default_of_two_thousand(self):
        # At each place so many stands as waits and goes lead to: a corridor of 12 rooms gone along and back.
        hall, stand = corridors(15)
        way = [("go", f"da{letter}") for letter in "abcdefghijklmn"]
        self.assertEqual(pared(hall, stand, (("at", "wa", "rao"),), way)[0], 14)
        way = [WAIT] * 1999
        self.assertEqual(pared(hall, stand, (), way), (0, tuple(way)))
        with self.assertRaises(TooMany) as caught:
            pared(hall, stand, (), way + [WAIT])
        self.assertEqual(caught.exception.most, 2000)
        self.assertEqual(pared(hall, stand, (), way + [WAIT], most=2001)[0], 0)
        self.assertRaises(TypeError, pared, LINE, A, GOAL, [D, E], 2000)

    def test_a_greater_hall(self):
        hall, stand, goal = full_hall()
        fetch = [("go", "dad"), ("go", "dac"), ("go", "dab"), ("go", "daa"), ("lift", "weight"), ("go", "daa"), ("go", "dab"),
                 ("go", "dac"), ("go", "dad")]
        bob = [WAIT] * 5 + [("go", "dba"), ("go", "dbb"), ("go", "dbc"), ("go", "gate")]
        idle = [WAIT, WAIT, WAIT, WAIT]
        # Ann goes to and fro at the end, which is of no use.
        way = [deed for one, other in zip(fetch, [*bob[:8], WAIT]) for deed in (one, other, *idle)]
        way += [("go", "dad"), WAIT, *idle, ("go", "dad"), ("go", "gate")]
        number, told = pared(hall, stand, goal, way, most=5000)
        self.assertEqual(number, 9 + 4)
        self.assertEqual(played(hall, stand, told)[-1][1][1], goal[0][2])


if __name__ == "__main__":
    unittest.main()
