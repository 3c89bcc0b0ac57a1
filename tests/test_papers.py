"""Promises 24 to 26: the looker over papers of anything, replies and foils."""

import unittest
from random import Random

from manyspots import full_hall
from samples import ANYTHING, STAND, make_hall
from slowplays import slow_bars, slow_forces, slow_values, some_cases
from weighdoors.errors import NoReply
from weighdoors.halls import Hall
from weighdoors.papers import bars, foil, forces, reply
from weighdoors.plays import Play, Rationed
from weighdoors.reaching import reach
from weighdoors.values import barring, forcing, value

# A walker goes along a, b, c by turns of its own alone; in c it is met.
LINE = Hall(["a", "b", "c"], [("d", "a", "b", "both", []), ("e", "b", "c", "both", [])], [], [("w", 1, 0)])
A, B, C = [(0, (room,), ()) for room in "abc"]
PLAY = Play(LINE, (("at", "w", "c"),))
# The same where all prices are nought.
FREE = Play(LINE, (("at", "w", "c"),), prices=(0, 0, 0, 0))
# Where each turn is the others'.
THEIRS = Play(LINE, (("at", "w", "c"),), side=[])
# Two walkers by turns; ours goes from x to y, theirs only waits.
PAIR = Hall(["x", "y"], [("d", "x", "y", "both", [])], [], [("v", 1, 0), ("w", 1, 0)])
AGAINST = Play(PAIR, (("at", "v", "y"),), side=["v"], still=["w"], prices=(1, 1, 1, 3))
OURS, OTHERS = (0, ("x", "x"), ()), (1, ("x", "x"), ())

NO_NUMBERS = [True, False, "1", "", (), (1,), [], [1], {}, {1: 1}, "None"]


class BarsTest(unittest.TestCase):
    def let_by(self, paper, is_let_by, play=PLAY):
        self.assertIs(bars(play, paper), is_let_by, paper)

    def test_numbers(self):
        for paper in ([(A, 2), (B, 1)], [(A, 1), (B, 1)], [(B, 1)], [(A, 1)], []):
            self.let_by(paper, True)
        for paper in ([(A, 3), (B, 1)], [(A, 2), (B, 2)], [(A, 2)], [(B, 2)], [(A, 1), (B, 2)], [(A, 10 ** 30), (B, 1)],
                      [(A, None), (B, 1)], [(A, None)], [(B, None)], [(A, None), (B, None)], [(A, 2), (B, None)]):
            self.let_by(paper, False)
        self.assertIs(bars(play=PLAY, paper=[(A, 2), (B, 1)]), True)

    def test_other_orders(self):
        self.let_by([(B, 1), (A, 2)], True)

    def test_numbers_above_nought(self):
        for number in [0, -1, -10 ** 30] + NO_NUMBERS:
            self.let_by([(B, number)], False)
            self.let_by([(A, number), (B, 1)], False)

    def test_spots_twice_and_met_spots(self):
        self.let_by([(A, 1), (A, 1)], False)
        self.let_by([(A, 1), (A, 2), (B, 1)], False)
        self.let_by([(C, 1)], False)
        self.let_by([(C, None)], False)
        self.let_by([(A, 1), (C, 1)], False)

    def test_none(self):
        # Without the door to c nothing leads there, and none of three can be left out.
        play = Play(Hall(["a", "b", "c"], [("d", "a", "b", "both", [])], [], [("w", 1, 0)]), (("at", "w", "c"),))
        self.let_by([(A, None), (B, None)], True, play)
        self.let_by([(B, None), (A, None)], True, play)
        for paper in ([(A, None)], [(B, None)], [(A, None), (B, 99)], [(A, 99)], [(A, 99), (B, 97)]):
            self.let_by(paper, False, play)
        # Numbers that nobody would tell, though they hold: None is more than all of them.
        self.let_by([(A, 99), (B, 99)], True, play)
        self.let_by([(A, 99), (B, 98)], True, play)
        # The others need one such move alone, and a number is less than None.
        self.let_by([(A, None)], True, THEIRS)
        self.let_by([(B, None)], True, THEIRS)
        self.let_by([(A, None), (B, 1)], True, THEIRS)
        self.let_by([(A, 7), (B, None)], True, THEIRS)
        self.let_by([(A, 1)], True, THEIRS)
        self.let_by([(A, 7)], True, THEIRS)

    def test_prices(self):
        self.let_by([(B, 1)], False, FREE)
        self.let_by([(OTHERS, 4), (OURS, 1)], True, AGAINST)
        self.let_by([(OTHERS, 5), (OURS, 1)], False, AGAINST)
        self.let_by([(OTHERS, 3)], True, AGAINST)
        self.let_by([(OTHERS, 4)], False, AGAINST)

    def test_at_our_turn_each_move_at_the_others_some_move(self):
        hall = Hall(["a", "b", "c"], [("d", "a", "b", "on", []), ("e", "a", "c", "on", [])], [], [("w", 1, 0)])
        goal = (("at", "w", "c"),)
        self.let_by([(A, 2), (B, None)], False, Play(hall, goal))
        self.let_by([(A, 1), (B, None)], True, Play(hall, goal))
        self.let_by([(A, 2), (B, None)], True, Play(hall, goal, side=()))

    def test_layings_counted(self):
        play = Rationed(LINE, (("at", "w", "c"),), 1)
        self.let_by([((A, 1), 2), ((B, 1), 1)], True, play)
        self.let_by([((A, 1), 2), ((B, 0), 1)], False, play)
        self.let_by([((A, 2), 1)], False, play)
        self.let_by([(A, 1)], False, play)

    def test_forms(self):
        for paper in ([[A, 1]], [(A,)], [(A, 1, 1)], [()], [(A, 1), (B,)], [(A, 1), None], [(A, 1), A], [A], [1],
                      ((A, 1),), ((A, 1), (B, 1)), (), {A: 1}, {}, [{A: 1}], [(list(A), 1)], [((0, ["a"], ()), 1)],
                      [((False, ("a",), ()), 1)], [((1, ("a",), ()), 1)], [((0, ("d",), ()), 1)], [(("a",), 1)],
                      [(1, A)], [(A, 1, None)], [((0, ("a",), (), ()), 1)]):
            self.let_by(paper, False)

    def test_anything(self):
        for thing in ANYTHING:
            self.let_by(thing, isinstance(thing, list) and not thing)
            self.let_by([thing], False)
            self.let_by([(thing, 1)], False)
            self.let_by([(A, thing)], isinstance(thing, int) and thing == 1 and not isinstance(thing, bool))
            self.let_by([(B, 1), thing], False)
            self.let_by([((0, thing, ()), 1)], False)

    def test_beside_the_slow_looker(self):
        dice = Random(40)
        told = []
        for case in some_cases(250, 41):
            play = Play(case.hall, case.goal, **case.options())
            values = slow_values(case.graph, case.met, case.ours)
            exact = [(spot, number) for spot, number in values.items() if number != 0]
            self.assertIs(bars(play, exact), True)
            for _ in range(8):
                paper = [changed(row, dice, 0.1) for row in exact if dice.random() < 0.95]
                paper = [row for row in paper if row[1] is None or row[1] > 0]
                dice.shuffle(paper)
                told.append(bars(play, paper))
                self.assertIs(told[-1], slow_bars(case.graph, case.met, case.ours, paper))
                if told[-1]:
                    for spot, number in paper:
                        self.assertTrue(values[spot] is None or number is not None and number <= values[spot])
        self.assertGreater(told.count(True), 100)
        self.assertGreater(told.count(False), 100)

    def test_one_number_more_is_never_let_by(self):
        for case in some_cases(100, 42):
            play = Play(case.hall, case.goal, **case.options())
            paper = barring(play, case.stand)
            for at, (spot, number) in enumerate(paper):
                if number is not None:
                    for more in (number + 1, None):
                        self.assertIs(bars(play, paper[:at] + [(spot, more)] + paper[at + 1:]), False)


def changed(row, dice, chance):
    """A row of a paper, perhaps with a number one more, one less, or None."""
    if dice.random() > chance or row[1] is None:
        return row
    return (row[0], dice.choice([row[1] + 1, row[1] - 1, row[1] - 1, None]))


class ForcesTest(unittest.TestCase):
    def let_by(self, paper, is_let_by, play=PLAY):
        self.assertIs(forces(play, paper), is_let_by, paper)

    def test_numbers(self):
        for paper in ([(A, 2, 2), (B, 1, 1)], [(A, 3, 2), (B, 1, 1)], [(A, 3, 2), (B, 2, 1)], [(B, 1, 1)], [],
                      [(A, 10 ** 30, 2), (B, 10 ** 30 - 1, 1)]):
            self.let_by(paper, True)
        for paper in ([(A, 1, 2), (B, 1, 1)], [(A, 2, 2), (B, 2, 1)], [(A, 2, 2), (B, 0, 1)], [(A, 2, 2)],
                      [(A, 9, 9)], [(B, 0, 1)], [(A, 0, 2), (B, 1, 1)]):
            self.let_by(paper, False)
        self.assertIs(forces(play=PLAY, paper=[(A, 2, 2), (B, 1, 1)]), True)

    def test_ranks(self):
        self.let_by([(A, 2, 99), (B, 1, 98)], True)
        self.let_by([(A, 2, 10 ** 30), (B, 1, 1)], True)
        for first, second in ((1, 1), (1, 2), (7, 7), (7, 8)):
            self.let_by([(A, 2, first), (B, 1, second)], False)
        # Where prices are nought the ranks alone forbid to go round.
        self.let_by([(A, 0, 2), (B, 0, 1)], True, FREE)
        self.let_by([(A, 0, 1), (B, 0, 1)], False, FREE)
        self.let_by([(A, 0, 1)], False, FREE)

    def test_other_orders(self):
        self.let_by([(B, 1, 1), (A, 2, 2)], True)

    def test_numbers_from_nought_and_ranks_from_one(self):
        self.let_by([(B, 0, 1)], True, FREE)
        for number in [-1, None, -10 ** 30] + NO_NUMBERS:
            self.let_by([(B, number, 1)], False, FREE)
            self.let_by([(B, number, 1)], False)
            self.let_by([(A, number, 2), (B, 1, 1)], False)
        for rank in [0, -1, None] + NO_NUMBERS:
            self.let_by([(B, 1, rank)], False)
            self.let_by([(A, 2, 2), (B, 1, rank)], False)

    def test_spots_twice_and_met_spots(self):
        self.let_by([(B, 1, 1), (B, 1, 1)], False)
        self.let_by([(B, 1, 1), (B, 2, 2)], False)
        self.let_by([(C, 1, 1)], False)
        self.let_by([(C, 0, 1), (B, 1, 2)], False)

    def test_some_move_of_ours_and_each_of_the_others(self):
        hall = Hall(["a", "b", "c"], [("d", "a", "b", "on", []), ("e", "a", "c", "on", [])], [], [("w", 1, 0)])
        self.let_by([(A, 1, 1)], True, Play(hall, (("at", "w", "c"),)))
        self.let_by([(A, 1, 1)], False, Play(hall, (("at", "w", "c"),), side=[]))
        self.let_by([(B, 1, 1)], False, THEIRS)
        self.let_by([(OTHERS, 4, 2), (OURS, 1, 1)], True, AGAINST)
        self.let_by([(OTHERS, 3, 2), (OURS, 1, 1)], False, AGAINST)
        self.let_by([(OTHERS, 4, 1), (OURS, 1, 1)], False, AGAINST)
        self.let_by([(OTHERS, 4, 2)], False, AGAINST)
        # Where w is free it may go first, and that must be in the paper, too.
        free = Play(PAIR, (("at", "v", "y"),), side=["v"])
        beyond = (0, ("x", "y"), ())
        self.let_by([(OTHERS, 2, 2), (OURS, 1, 1)], False, free)
        self.let_by([(OTHERS, 2, 2), (OURS, 1, 1), (beyond, 1, 1)], True, free)
        self.let_by([(OTHERS, 2, 2), (OURS, 1, 1), (beyond, 1, 2)], False, free)
        self.let_by([(OTHERS, 2, 2), (OURS, 1, 1), (beyond, 2, 1)], False, free)

    def test_layings_counted(self):
        play = Rationed(LINE, (("at", "w", "c"),), 1)
        self.let_by([((A, 1), 2, 2), ((B, 1), 1, 1)], True, play)
        self.let_by([((A, 1), 2, 2), ((B, 0), 1, 1)], False, play)
        self.let_by([((B, 2), 1, 1)], False, play)
        self.let_by([(B, 1, 1)], False, play)

    def test_forms(self):
        for paper in ([[B, 1, 1]], [(B,)], [(B, 1)], [(B, 1, 1, 1)], [()], [(B, 1, 1), (A, 2)], [(B, 1, 1), None],
                      [B], [1], ((B, 1, 1),), (), {B: (1, 1)}, {}, [(list(B), 1, 1)], [((0, ["b"], ()), 1, 1)],
                      [((False, ("b",), ()), 1, 1)], [((1, ("b",), ()), 1, 1)], [((0, ("d",), ()), 1, 1)], [(1, 1, B)]):
            self.let_by(paper, False)

    def test_anything(self):
        for thing in ANYTHING:
            is_one = isinstance(thing, int) and thing == 1 and not isinstance(thing, bool)
            is_more = isinstance(thing, int) and thing > 0 and not isinstance(thing, bool)
            self.let_by(thing, isinstance(thing, list) and not thing)
            self.let_by([thing], False)
            self.let_by([(thing, 1, 1)], False)
            self.let_by([(B, thing, 1)], is_more)
            self.let_by([(B, 1, thing)], is_more)
            self.let_by([(B, thing, thing)], is_more)
            self.let_by([(A, 2, 2), (B, thing, 1)], is_one)
            self.let_by([(B, 1, 1), thing], False)

    def test_beside_the_slow_looker(self):
        dice = Random(43)
        told = []
        for case in some_cases(400, 44):
            play = Play(case.hall, case.goal, **case.options())
            exact = forcing(play, case.stand)
            if not exact:
                continue
            values = slow_values(case.graph, case.met, case.ours)
            for _ in range(12):
                spread = dice.choice([1, 1, 3])
                paper = [(spot, number + more, spread * rank + dice.choice([0, 0, 0, 0, 0, 1, -1]))
                         for spot, number, rank in exact for more in [dice.choice([0] * 19 + [1, -1])]
                         if dice.random() < 0.97]
                paper = [row for row in paper if row[1] >= 0 and row[2] >= 1]
                dice.shuffle(paper)
                told.append(forces(play, paper))
                self.assertIs(told[-1], slow_forces(case.graph, case.met, case.ours, paper))
                if told[-1]:
                    for spot, number, _ in paper:
                        self.assertLessEqual(values[spot], number)
        self.assertGreater(told.count(True), 100)
        self.assertGreater(told.count(False), 100)

    def test_one_number_less_is_never_let_by(self):
        for case in some_cases(100, 45):
            play = Play(case.hall, case.goal, **case.options())
            paper = forcing(play, case.stand)
            for at, (spot, number, rank) in enumerate(paper):
                self.assertIs(forces(play, paper[:at] + [(spot, number - 1, rank)] + paper[at + 1:]), False)
                self.assertIs(forces(play, paper[:at] + [(spot, number + 1, rank)] + paper[at + 1:]),
                              slow_forces(case.graph, case.met, case.ours,
                                          paper[:at] + [(spot, number + 1, rank)] + paper[at + 1:]))


class ReplyTest(unittest.TestCase):
    def refused(self, ask, play, paper, spot):
        with self.assertRaises(NoReply) as caught:
            ask(play, paper, spot)
        self.assertIs(caught.exception.asked, spot)

    def test_replies(self):
        paper = [(A, 2, 2), (B, 1, 1)]
        self.assertEqual(reply(PLAY, paper, A), (("go", "d"), 1, B))
        self.assertEqual(reply(play=PLAY, paper=paper, spot=B), (("go", "e"), 1, C))
        self.assertEqual(reply(AGAINST, [(OTHERS, 4, 2), (OURS, 1, 1)], OURS), (("go", "d"), 1, (1, ("y", "x"), ())))

    def test_foils(self):
        self.assertEqual(foil(THEIRS, [(A, None)], A), (("wait",), 1, A))
        self.assertEqual(foil(play=THEIRS, paper=[(A, 7), (B, None)], spot=B), (("wait",), 1, B))
        self.assertEqual(foil(AGAINST, [(OTHERS, 4), (OURS, 1)], OTHERS), (("wait",), 3, OURS))

    def test_spots_that_are_not_in_the_paper(self):
        self.refused(reply, PLAY, [(B, 1, 1)], A)
        self.refused(reply, PLAY, [(B, 1, 1)], C)
        self.refused(reply, PLAY, [], A)
        self.refused(foil, THEIRS, [(A, None)], B)
        self.refused(foil, THEIRS, [(A, None)], C)
        self.refused(foil, THEIRS, [], A)
        for thing in ANYTHING:
            self.refused(reply, PLAY, [(B, 1, 1)], thing)
            self.refused(foil, THEIRS, [(A, None)], thing)

    def test_the_other_sides_turn(self):
        self.refused(reply, AGAINST, [(OTHERS, 4, 2), (OURS, 1, 1)], OTHERS)
        self.refused(foil, AGAINST, [(OTHERS, 4), (OURS, 1)], OURS)
        self.refused(foil, PLAY, [(A, 2), (B, 1)], A)

    def test_beside_all_rows(self):
        replies = foils = 0
        for case in some_cases(300, 46):
            play = Play(case.hall, case.goal, **case.options())
            forced, barred = forcing(play, case.stand), barring(play, case.stand)
            rows = {spot: (number, rank) for spot, number, rank in forced}
            for spot, number, rank in forced:
                if not case.ours(spot):
                    self.refused(reply, play, forced, spot)
                    continue
                move = reply(play, forced, spot)
                self.assertIn(move, case.graph[spot])
                behind, lesser = (0, 0) if case.met(move[2]) else rows[move[2]]
                self.assertTrue(lesser < rank and move[1] + behind <= number)
                replies += 1
            numbers = dict(barred)
            for spot, number in barred:
                if case.ours(spot):
                    self.refused(foil, play, barred, spot)
                    continue
                move = foil(play, barred, spot)
                self.assertIn(move, case.graph[spot])
                behind = numbers.get(move[2], 0)
                self.assertTrue(behind is None or number is not None and move[1] + behind >= number)
                foils += 1
        self.assertGreater(min(replies, foils), 200)

    def test_who_follows_a_paper(self):
        dice = Random(47)
        for case in some_cases(300, 48):
            play = Play(case.hall, case.goal, **case.options())
            forced, barred = forcing(play, case.stand), barring(play, case.stand)
            if forced:
                [(paid, moves)] = [row[1:] for row in forced if row[0] == case.stand]
                spot = case.stand
                while not play.met(spot):
                    _, price, spot = reply(play, forced, spot) if play.ours(spot) else dice.choice(play.moves(spot))
                    paid, moves = paid - price, moves - 1
                self.assertTrue(paid >= 0 and moves >= 0)
            elif barred and value(play, case.stand) is None:
                spot = case.stand
                for _ in range(40):
                    _, _, spot = dice.choice(play.moves(spot)) if play.ours(spot) else foil(play, barred, spot)
                    self.assertFalse(play.met(spot))

    def test_the_paper_stays_as_it_was(self):
        for play, paper, asks in ((AGAINST, [(OTHERS, 4, 2), (OURS, 1, 1)], ((forces,), (reply, OURS))),
                                  (AGAINST, [(OTHERS, 4), (OURS, 1)], ((bars,), (foil, OTHERS)))):
            kept = list(paper)
            for ask, *spot in asks:
                self.assertEqual(ask(play, paper, *spot), ask(play, paper, *spot))
                self.assertEqual(paper, kept)


class ManySpotsTest(unittest.TestCase):
    def test_twelve_stones_and_six_walkers(self):
        hall, stand, goal = full_hall()
        play = Play(hall, (("open", "nosuch"),) + goal, side=["cyd"])
        paper = [(spot, None) for spot in reach(play, stand, most=5000)]
        self.assertIs(bars(play, paper), True)
        self.assertIs(forces(play, [(spot, 1, 1) for spot, _ in paper]), False)
        self.assertEqual(foil(play, paper, stand)[0], ("go", "dad"))

    def test_a_hall_of_its_own(self):
        hall = make_hall()
        play = Play(hall, (("at", "ann", "tower"),))
        self.assertIs(forces(play, [(STAND, 1, 1)]), True)
        self.assertIs(bars(play, [(STAND, 1)]), True)
        self.assertIs(bars(play, [(STAND, 2)]), False)
        self.assertEqual(reply(play, [(STAND, 1, 1)], STAND)[0], ("go", "arch"))


if __name__ == "__main__":
    unittest.main()
