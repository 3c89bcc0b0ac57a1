"""Promise 21: plays of halls, and those with layings counted."""

import unittest

from samples import ANYTHING, STAND, make_hall, slow_done, some_pairs
from slowplays import slow_moves, slow_rationed_moves, some_cases
from weighdoors.deeds import deeds
from weighdoors.errors import TooMany
from weighdoors.halls import Hall
from weighdoors.plays import Play, Rationed
from weighdoors.reaching import reach

GOAL = (("at", "ann", "cave"),)


class PlayTest(unittest.TestCase):
    def test_moves_rising_with_price_and_spot_behind(self):
        hall = make_hall()
        spot = (1, ("cave", "yard"), ("ann", "yard"))
        play = Play(hall, GOAL, prices=(5, 6, 7, 8))
        self.assertEqual(play.moves(spot), [
            (("go", "arch"), 5, (0, ("cave", "tower"), ("ann", "yard"))),
            (("go", "gate"), 5, (0, ("cave", "cave"), ("ann", "yard"))),
            (("lay", "axe"), 7, (0, ("cave", "yard"), ("yard", "yard"))),
            (("lift", "ball"), 6, (0, ("cave", "yard"), ("ann", "ann"))),
            (("wait",), 8, (0, ("cave", "yard"), ("ann", "yard"))),
        ])
        self.assertEqual(play.moves(spot=spot), play.moves(spot))
        self.assertIs(type(play.moves(spot)), list)
        self.assertEqual({type(move) for move in play.moves(spot)}, {tuple})

    def test_prices(self):
        hall = make_hall()
        spot = (1, ("cave", "yard"), ("ann", "yard"))
        self.assertEqual([move[1] for move in Play(hall, GOAL).moves(spot)], [1] * 5)
        for prices in ((0, 0, 0, 0), (99, 99, 99, 99), (0, 99, 0, 99), (99, 0, 98, 1)):
            go, lift, lay, wait = prices
            told = [move[1] for move in Play(hall=hall, goal=GOAL, prices=prices).moves(spot)]
            self.assertEqual(told, [go, go, lay, lift, wait])
            self.assertEqual({type(price) for price in told}, {int})

    def test_unlike_deeds(self):
        # Two doors into one room: two moves to one spot.
        hall = Hall(["a", "b"], [("d", "a", "b", "both", []), ("c", "b", "a", "on", [])], [], [("w", 1, 0)])
        self.assertEqual(Play(hall, ()).moves((0, ("b",), ())), [
            (("go", "c"), 1, (0, ("a",), ())), (("go", "d"), 1, (0, ("a",), ())), (("wait",), 1, (0, ("b",), ()))])

    def ours(self, **options):
        play = Play(make_hall(), GOAL, **options)
        told = [play.ours((turn, *STAND[1:])) for turn in range(2)]
        self.assertEqual({type(is_ours) for is_ours in told}, {bool})
        return told

    def test_sides(self):
        # The turns: bob, ann.
        self.assertEqual(self.ours(), [True, True])
        self.assertEqual(self.ours(side=None), [True, True])
        for kind in (list, tuple):
            self.assertEqual(self.ours(side=kind(["ann", "bob"])), [True, True])
            self.assertEqual(self.ours(side=kind(["ann"])), [False, True])
            self.assertEqual(self.ours(side=kind(["bob"])), [True, False])
            self.assertEqual(self.ours(side=kind(["bob", "bob"])), [True, False])
            self.assertEqual(self.ours(side=kind([])), [False, False])

    def test_sides_change_no_moves(self):
        for side in (None, [], ["ann"]):
            self.assertEqual(Play(make_hall(), GOAL, side=side).moves(STAND), Play(make_hall(), GOAL).moves(STAND))

    def test_still_ones_only_wait(self):
        hall = make_hall()
        for still in (["ann"], ("ann",), ("ann", "ann")):
            play = Play(hall, GOAL, still=still, prices=(1, 2, 3, 4))
            self.assertEqual(play.moves(STAND), [(("wait",), 4, (0, *STAND[1:]))])
            bobs = (0, *STAND[1:])
            self.assertEqual([move[0] for move in play.moves(bobs)], deeds(hall, bobs))
            self.assertEqual(play.ours(STAND), True)
        play = Play(hall, GOAL, still=["ann", "bob"], side=["ann"])
        self.assertEqual(reach(play, STAND), [(0, *STAND[1:]), STAND])
        self.assertEqual([play.ours((turn, *STAND[1:])) for turn in (0, 1)], [False, True])
        for still in ((), []):
            self.assertEqual(Play(hall, GOAL, still=still).moves(STAND), Play(hall, GOAL).moves(STAND))

    def test_what_is_handed_in_may_change_behind_the_call(self):
        side, still, prices = ["ann"], ["bob"], [1, 2, 3, 4]
        play = Play(make_hall(), GOAL, prices=prices, side=side, still=still)
        waits = play.moves((0, *STAND[1:]))
        told = play.moves(STAND)
        self.assertEqual((side, still, prices), (["ann"], ["bob"], [1, 2, 3, 4]))
        side[:], still[:], prices[:] = ["bob"], ["ann"], [9, 9, 9, 9]
        self.assertEqual([play.ours((turn, *STAND[1:])) for turn in (0, 1)], [False, True])
        self.assertEqual(play.moves((0, *STAND[1:])), waits)
        self.assertEqual(play.moves(STAND), told)

    def test_told_lists_are_new(self):
        play = Play(make_hall(), GOAL)
        told = play.moves(STAND)
        told.clear()
        self.assertEqual(len(play.moves(STAND)), 3)

    def test_met_and_moves_of_met_spots(self):
        hall = make_hall()
        play = Play(hall, GOAL)
        spot = (1, ("cave", "cave"), ("bob", "cave"))
        self.assertIs(play.met(spot), True)
        self.assertIs(play.met(STAND), False)
        self.assertIs(play.met(spot=spot), True)
        self.assertEqual([move[0] for move in play.moves(spot)], deeds(hall, spot))
        self.assertEqual(play.moves(spot), slow_moves(hall, spot))
        self.assertIs(Play(hall, ()).met(STAND), True)
        self.assertEqual(Play(hall, ()).moves(STAND), slow_moves(hall, STAND))

    def test_is_spot_of_anything(self):
        play = Play(make_hall(), GOAL)
        for thing in ANYTHING + [list(STAND), (STAND, 1), (True, *STAND[1:]), (2, *STAND[1:]), STAND[:2]]:
            self.assertIs(play.is_spot(thing), False)
            self.assertIs(play.is_spot((1, thing, STAND[2])), False)
        self.assertIs(play.is_spot(STAND), True)
        self.assertIs(play.is_spot(thing=(0, *STAND[1:])), True)

    def test_options_by_name_alone(self):
        self.assertRaises(TypeError, Play, make_hall(), GOAL, (1, 1, 1, 1))

    def test_beside_the_slow_model(self):
        for case in some_cases(60, 23):
            play = Play(case.hall, case.goal, **case.options())
            for spot, moves in list(case.graph.items())[:20]:
                self.assertEqual(play.moves(spot), moves)
                self.assertIs(play.met(spot), case.met(spot))
                self.assertIs(play.ours(spot), case.ours(spot))
                self.assertIs(play.is_spot(spot), True)


class RationedTest(unittest.TestCase):
    # Ann has the axe and can lay it.
    STAND = (1, ("cave", "yard"), ("ann", "yard"))

    def test_a_laying_only_where_one_is_left_and_it_takes_it(self):
        play = Rationed(make_hall(), GOAL, 2)
        behind = (0, ("cave", "yard"), ("yard", "yard"))
        for left in (1, 2):
            moves = {move[0]: move for move in play.moves((self.STAND, left))}
            self.assertEqual(moves[("lay", "axe")], (("lay", "axe"), 1, (behind, left - 1)))
            self.assertEqual(list(moves), deeds(make_hall(), self.STAND))
            self.assertEqual({move[2][1] for deed, move in moves.items() if deed[0] != "lay"}, {left})
        told = play.moves((self.STAND, 0))
        self.assertEqual([move[0] for move in told], [("go", "arch"), ("go", "gate"), ("lift", "ball"), ("wait",)])
        self.assertEqual({move[2][1] for move in told}, {0})

    def test_one_step_a_price_and_all_walkers_ours(self):
        play = Rationed(hall=make_hall(), goal=GOAL, layings=1)
        self.assertEqual([move[1] for move in play.moves((self.STAND, 1))], [1] * 5)
        for turn in (0, 1):
            self.assertIs(play.ours(((turn, *STAND[1:]), 0)), True)

    def test_spots_of_anything(self):
        play = Rationed(make_hall(), GOAL, 2)
        for left in (0, 1, 2):
            self.assertIs(play.is_spot((STAND, left)), True)
            self.assertIs(play.is_spot(thing=(self.STAND, left)), True)
        for thing in [STAND, (STAND,), (STAND, 1, 1), [STAND, 1], (1, STAND), (STAND, -1), (STAND, 3)]:
            self.assertIs(play.is_spot(thing), False)
        for thing in ANYTHING + [list(STAND), (STAND, 1)]:
            self.assertIs(play.is_spot(thing), thing == (STAND, 1))
            self.assertIs(play.is_spot((thing, 1)), False)
            if thing not in (0, 1) or isinstance(thing, bool):
                self.assertIs(play.is_spot((STAND, thing)), False)
        # At most one laying: the truths are no numbers.
        play = Rationed(make_hall(), GOAL, 1)
        for truth in (True, False):
            self.assertIs(play.is_spot((STAND, truth)), False)
            self.assertIs(play.is_spot(((truth, *STAND[1:]), 1)), False)
        none = Rationed(make_hall(), GOAL, 0)
        self.assertEqual([none.is_spot((STAND, left)) for left in (0, 1)], [True, False])

    def test_met(self):
        play = Rationed(make_hall(), GOAL, 2)
        spot = (1, ("cave", "cave"), ("bob", "cave"))
        self.assertIs(play.met((spot, 0)), True)
        self.assertIs(play.met((spot, 2)), True)
        self.assertIs(play.met((STAND, 2)), False)
        self.assertEqual(play.moves((spot, 0)), slow_rationed_moves(make_hall(), (spot, 0)))

    def test_beside_the_slow_model(self):
        for hall, stand in some_pairs(200, 24):
            play = Rationed(hall, (), 2)
            for left in (0, 1, 2):
                self.assertEqual(play.moves((stand, left)), slow_rationed_moves(hall, (stand, left)))

    def test_what_can_be_come_to(self):
        # A room and a walker with a stone: no more than so many layings.
        hall = Hall(["a"], [], [("s", 1)], [("w", 1, 1)])
        held, lying = (0, ("a",), ("w",)), (0, ("a",), ("a",))
        self.assertEqual(reach(Rationed(hall, (), 2), (held, 1)), [(lying, 0), (held, 0), (held, 1)])
        self.assertEqual(reach(Rationed(hall, (), 2), (held, 0)), [(held, 0)])
        self.assertEqual(len(reach(Rationed(hall, (), 2), (held, 2), most=5)), 5)
        self.assertRaises(TooMany, reach, Rationed(hall, (), 2), (held, 2), most=4)


class BothTest(unittest.TestCase):
    def test_the_hall_stays_as_it_was(self):
        hall = make_hall()
        for play, spot in ((Play(hall, GOAL), STAND), (Rationed(hall, GOAL, 1), (STAND, 1))):
            told = play.moves(spot)
            self.assertEqual(play.moves(spot), told)
            self.assertEqual(hall, make_hall())
            self.assertEqual(slow_done(hall, STAND, ("wait",)), (0, *STAND[1:]))


if __name__ == "__main__":
    unittest.main()
