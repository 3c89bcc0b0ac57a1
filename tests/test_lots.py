"""Promises 36 and 37: lots that do and lots that don't, their papers, and the looker over lots."""

import unittest
from itertools import combinations, permutations
from random import Random

from manyspots import corridors
from remade import all_from, comes, parts_of, remade, rising, set_free, small_cases, with_hefts, without, worth
from samples import ANYTHING
from weighdoors.errors import NotRising, TooMany
from weighdoors.halls import Hall
from weighdoors.lots import covers, lot_holds, lot_paper, lots
from weighdoors.papers import bars, forces
from weighdoors.plays import Play

WORDS = ("open", "wall", "weigh", "walk", "force")


def all_lots(names):
    """All lots of some names."""
    return [lot for many in range(len(names) + 1) for lot in combinations(sorted(names), many)]


def names_of(hall, word):
    """The names of a word's sort."""
    return {"open": hall.doors(), "wall": hall.doors(), "weigh": hall.stones()}.get(word, hall.walkers())


def lot_hall(hall, word, lot):
    """The hall of a lot's play."""
    if word == "open":
        return set_free(hall, lot)
    if word == "wall":
        return without(hall, lot)
    if word == "weigh":
        return with_hefts(hall, {stone: 0 for stone in hall.stones() if stone not in lot})
    return hall


def slow_does(hall, stand, goal, word, lot):
    """Whether a lot does, by a search of its own."""
    if word == "force":
        return worth(hall, stand, goal, side=lot) is not None
    still = [walker for walker in hall.walkers() if walker not in lot] if word == "walk" else ()
    return comes(lot_hall(hall, word, lot), stand, goal, still) is not (word == "wall")


def own_play(hall, goal, word, lot):
    """The play of a lot."""
    if word == "force":
        return Play(hall, goal, side=lot)
    still = [walker for walker in hall.walkers() if walker not in lot] if word == "walk" else ()
    return Play(lot_hall(hall, word, lot), goal, still=still)


def slow_lots(hall, stand, goal, word):
    """All least lots that do and all greatest that don't, by a reckoning over all lots."""
    some = all_lots(names_of(hall, word))
    does = [lot for lot in some if slow_does(hall, stand, goal, word, lot)]
    fails = [lot for lot in some if lot not in does]
    return (sorted(lot for lot in does if not any(set(other) < set(lot) for other in does)),
            sorted(lot for lot in fails if not any(set(lot) < set(other) for other in fails)))


def lot_cases(many, seed, most=40):
    """Cases with each word: hall, stand, goal, word."""
    for case in small_cases(many, seed, most):
        for word in WORDS:
            hall = rising(case.hall) if word == "weigh" else case.hall
            if len(all_from(set_free(hall, hall.doors()), case.stand)) <= 300:
                yield hall, case.stand, case.goal, word


def fork_hall():
    """From a to c by b or straight; x stands open by s or by t, y by both."""
    return Hall(["a", "b", "c"], [("x", "a", "b", "on", [("a", 2, None)]), ("y", "b", "c", "on", [("a", 4, None)]),
                                  ("z", "a", "c", "on", [("b", 9, None)])], [("s", 2), ("t", 2)], [("w", 1, 0)])


STAND = (0, ("a",), ("a", "a"))
GOAL = (("at", "w", "c"),)


class LotsTest(unittest.TestCase):
    def test_each_word(self):
        hall, away = fork_hall(), (0, ("a",), ("c", "c"))
        self.assertEqual(lots(hall, away, GOAL, "open"), ([("x", "y"), ("z",)], [("x",), ("y",)]))
        self.assertEqual(lots(hall, STAND, GOAL, "wall"), ([("x",), ("y",)], [("z",)]))
        self.assertEqual(lots(hall, STAND, GOAL, "weigh"), ([("s", "t")], [("s",), ("t",)]))
        self.assertEqual(lots(hall, STAND, (("at", "w", "b"),), "weigh"), ([("s",), ("t",)], [()]))
        self.assertEqual(lots(hall, STAND, GOAL, "walk"), ([("w",)], [()]))
        self.assertEqual(lots(hall, STAND, GOAL, "force"), ([("w",)], [()]))
        self.assertEqual(lots(hall=hall, stand=STAND, goal=GOAL, word="wall", most=3), ([("x",), ("y",)], [("z",)]))

    def test_the_empty_lot_that_does_and_the_full_one_that_doesnt(self):
        hall = fork_hall()
        for word in ("open", "weigh", "walk", "force"):
            self.assertEqual(lots(hall, STAND, (), word), ([()], []))
            self.assertEqual(lots(hall, STAND, (("open", "nosuch"),), word),
                             ([], [tuple(sorted(names_of(hall, word)))]))
        self.assertEqual(lots(hall, STAND, (), "wall"), ([], [("x", "y", "z")]))
        self.assertEqual(lots(hall, STAND, (("open", "nosuch"),), "wall"), ([()], []))

    def test_no_names_of_the_sort_at_all(self):
        hall = Hall(["a", "b"], [], [], [("w", 1, 0)])
        stand = (0, ("a",), ())
        for word in ("open", "weigh"):
            self.assertEqual(lots(hall, stand, (), word), ([()], []))
            self.assertEqual(lots(hall, stand, (("at", "w", "b"),), word), ([], [()]))
        self.assertEqual(lots(hall, stand, (), "wall"), ([], [()]))
        self.assertEqual(lots(hall, stand, (("at", "w", "b"),), "wall"), ([()], []))

    def test_rising_lots_of_walkers_in_whatever_order_of_turns(self):
        walkers = [("v", 1, 0), ("w", 1, 0), ("u", 1, 0)]
        hall = Hall(["a", "b"], [("d", "a", "b", "both", [])], [], walkers)
        goal = (("at", "w", "b"), ("at", "u", "b"))
        self.assertEqual(lots(hall, (0, ("a", "a", "a"), ()), goal, "walk"), ([("u", "w")], [("u", "v"), ("v", "w")]))
        self.assertEqual(lots(hall, (0, ("a", "a", "a"), ()), goal[:1], "force"), ([("w",)], [("u", "v")]))
        # The others may go back again and again: both must be of our side.
        self.assertEqual(lots(hall, (0, ("a", "a", "a"), ()), goal, "force"), ([("u", "w")], [("u", "v"), ("v", "w")]))

    def test_beside_a_reckoning_over_all_lots(self):
        shapes = {word: {} for word in WORDS}
        for hall, stand, goal, word in lot_cases(130, 100):
            told = lots(hall, stand, goal, word)
            self.assertEqual(told, slow_lots(hall, stand, goal, word))
            self.assertEqual((type(told), type(told[0]), type(told[1])), (tuple, list, list))
            self.assertEqual({type(lot) for lot in told[0] + told[1]} - {tuple}, set())
            self.assertIs(covers(names_of(hall, word), *told), True)
            shapes[word][(bool(told[0]), bool(told[1]))] = shapes[word].get((bool(told[0]), bool(told[1])), 0) + 1
        for word in WORDS:
            self.assertEqual(len(shapes[word]), 2 if word == "weigh" else 3, shapes)

    def test_stones_beside_a_reckoning_over_all_lots(self):
        dice = Random(107)
        both = 0
        for _ in range(60):
            doors = [(name, *dice.sample("abc", 2), "both", [(dice.choice("ab"), dice.randint(0, 7), None)])
                     for name in ("da", "db", "dc")]
            hall = Hall("abc", doors, [(name, dice.randint(0, 4)) for name in ("sa", "sb", "sc")], [("w", 1, 1)])
            stand = (0, ("a",), tuple(dice.choice("aabw"[:3 + (at == 0)]) for at in range(3)))
            goal = (("at", "w", "c"), *dice.choice([(), (("bears", "c", 3),)]))
            told = lots(hall, stand, goal, "weigh")
            self.assertEqual(told, slow_lots(hall, stand, goal, "weigh"))
            both += told[0] not in ([], [()])
        self.assertGreater(both, 10)

    def test_six_names(self):
        dice = Random(101)
        for _ in range(12):
            doors = [(f"d{letter}", *dice.sample("abcde", 2), dice.choice(["both", "on"]),
                      dice.choice([[], [(dice.choice("abcde"), dice.randint(0, 4), None)]])) for letter in "abcdef"]
            hall = Hall("abcde", doors, [("s", 2), ("t", 1)], [("w", 1, 1)])
            for word in ("open", "wall"):
                self.assertEqual(lots(hall, (0, ("a",), ("a", "b")), (("at", "w", "e"),), word),
                                 slow_lots(hall, (0, ("a",), ("a", "b")), (("at", "w", "e"),), word))
        hall = Hall(["a", "b"], [("d", "a", "b", "on", [("a", 7, None)])],
                    [(f"s{letter}", heft) for letter, heft in zip("abcdef", (1, 2, 3, 4, 5, 6))], [("w", 1, 0)])
        stand = (0, ("a",), ("a",) * 6)
        told = lots(hall, stand, (("at", "w", "b"),), "weigh")
        self.assertEqual(told, slow_lots(hall, stand, (("at", "w", "b"),), "weigh"))
        self.assertIn(("sa", "sb", "sd"), told[0])
        self.assertIn(("sa", "sf"), told[0])
        self.assertIn(("sa", "sb", "sc"), told[1])
        hall, stand = corridors(2, 2, 2, 1, 1, 1)
        goal = (("at", "wa", "rab"), ("at", "wc", "rcb"))
        for word in ("walk", "force"):
            self.assertEqual(lots(hall, stand, goal, word), slow_lots(hall, stand, goal, word))

    def test_told_lists_are_new_and_the_hall_stays(self):
        hall = fork_hall()
        for word in WORDS:
            told = lots(hall, STAND, GOAL, word)
            for some in lots(hall, STAND, GOAL, word):
                some.append(("zz",))
            self.assertEqual(lots(hall, STAND, GOAL, word), told)
        self.assertEqual(hall, fork_hall())


class RefusalsTest(unittest.TestCase):
    def refused(self, ask, most, *asked):
        with self.assertRaises(TooMany) as caught:
            ask(*asked, most=most)
        self.assertEqual(caught.exception.most, most)

    def test_not_rising_ahead_of_too_many(self):
        rows = [("a", 1, None)], [("b", 0, 5), ("a", 1, None)], [("a", 0, 9)]
        hall = Hall(["a", "b"], [(name, "a", "b", "both", some) for name, some in zip("def", rows)],
                    [("s", 1)], [("w", 1, 1)])
        stand = (0, ("a",), ("a",))
        for most in (1, 2000):
            for lot in ((), ("s",)):
                with self.assertRaises(NotRising) as caught:
                    lot_paper(hall, stand, (), "weigh", lot, most=most)
                self.assertEqual(caught.exception.name, "e")
            with self.assertRaises(NotRising) as caught:
                lots(hall, stand, (), "weigh", most=most)
            self.assertEqual(caught.exception.name, "e")
        for word in ("open", "wall", "walk", "force"):
            self.assertEqual(len(lots(hall, stand, (), word)), 2)

    def test_too_many(self):
        kinds = {"open": 0}
        for hall, stand, goal, word in lot_cases(60, 102):
            many = len(all_from(set_free(hall, hall.doors()) if word == "open" else hall, stand))
            if word == "open":
                kinds["open"] += many > len(all_from(hall, stand))
            told = lots(hall, stand, goal, word, most=many)
            self.assertEqual(told, lots(hall, stand, goal, word))
            some = all_lots(names_of(hall, word))
            for lot in (some[0], some[-1], some[len(some) // 2]):
                lot_paper(hall, stand, goal, word, lot, most=many)
                if many > 1:
                    self.refused(lot_paper, many - 1, hall, stand, goal, word, lot)
            if many > 1:
                self.refused(lots, many - 1, hall, stand, goal, word)
        self.assertGreater(kinds["open"], 10)

    def test_whatever_else_is_so(self):
        # Met at once or never, and all doors opened: one more room.
        hall = fork_hall()
        for goal in ((), (("open", "nosuch"),)):
            for word, stand, many in (("open", (0, ("a",), ("c", "c")), 3), ("wall", STAND, 3), ("weigh", STAND, 3),
                                      ("walk", STAND, 3), ("force", STAND, 3), ("wall", (0, ("a",), ("c", "c")), 1)):
                lots(hall, stand, goal, word, most=many)
                if many > 1:
                    self.refused(lots, many - 1, hall, stand, goal, word)
                    self.refused(lot_paper, many - 1, hall, stand, goal, word, ())

    def test_the_default_of_two_thousand(self):
        hall, stand = corridors(7, 4, 4, 3, 1, 1)
        for word in ("weigh", "walk", "force"):
            for most in ({}, {"most": 2000}):
                with self.assertRaises(TooMany) as caught:
                    lots(hall, stand, (), word, **most)
                self.assertEqual(caught.exception.most, 2000)
            self.assertEqual(lots(hall, stand, (), word, most=2016), ([()], []))
            self.assertRaises(TooMany, lot_paper, hall, stand, (), word, ())
        self.assertRaises(TypeError, lots, hall, stand, (), "walk", 5000)
        self.assertRaises(TypeError, lot_paper, hall, stand, (), "walk", (), 5000)

    def test_a_greater_hall(self):
        hall, stand = corridors(10, 5, 5, 5)
        goal = (("at", "wa", "raj"), ("at", "wc", "rce"))
        some = (("wa", "wb", "wd"), ("wb", "wc", "wd"))
        self.assertEqual(lots(hall, stand, goal, "walk", most=5000), ([("wa", "wc")], list(some)))
        self.assertEqual(lots(hall, stand, goal[:1], "force", most=5000), ([("wa",)], [("wb", "wc", "wd")]))
        self.refused(lots, 4999, hall, stand, goal, "walk")
        for lot, does, rows in (((), "not", 4500), (("wa",), "does", 1)):
            told, paper = lot_paper(hall, stand, goal[:1], "force", lot, most=5000)
            self.assertEqual(told, does)
            self.assertGreaterEqual(len(paper), rows)
        told, paper = lot_paper(hall, stand, goal, "walk", some[0], most=5000)
        self.assertEqual(told, "not")
        self.assertIs(lot_holds(hall, stand, goal, "walk", some[0], (told, paper)), True)


class LotPaperTest(unittest.TestCase):
    def test_each_lot(self):
        kinds = {}
        for hall, stand, goal, word in lot_cases(60, 103):
            for lot in all_lots(names_of(hall, word)):
                told = lot_paper(hall, stand, goal, word, lot)
                self.assertEqual((type(told), len(told), type(told[1])), (tuple, 2, list))
                does = slow_does(hall, stand, goal, word, lot)
                self.assertEqual(told[0], "does" if does else "not")
                self.check(hall, stand, goal, word, lot, does, told)
                kinds[(word, does)] = kinds.get((word, does), 0) + 1
        self.assertEqual(len(kinds), 10)
        self.assertGreater(min(kinds.values()), 10, kinds)

    def check(self, hall, stand, goal, word, lot, does, told):
        """The paper is let by in the lot's own play, has what it must have, and the looker says so."""
        play = own_play(hall, goal, word, lot)
        if does is not (word == "wall"):
            self.assertIs(forces(play, told[1]), True)
            if play.met(stand):
                self.assertEqual(told[1], [])
            else:
                self.assertIn(stand, [spot for spot, _, _ in told[1]])
                prices = {row[0]: row[1] for row in told[1]}
                side = lot if word == "force" else None
                if word != "walk":
                    self.assertEqual(prices[stand], worth(lot_hall(hall, word, lot), stand, goal, side=side))
        else:
            self.assertIs(bars(play, told[1]), True)
            self.assertIn((stand, None), told[1])
        self.assertIs(lot_holds(hall, stand, goal, word, lot, told), True)
        other = ({"does": "not", "not": "does"}[told[0]], told[1])
        self.assertIs(lot_holds(hall, stand, goal, word, lot, other), False)

    def test_the_interfaces_names(self):
        hall = fork_hall()
        told = lot_paper(hall=hall, stand=STAND, goal=GOAL, word="wall", lot=("x",), most=3)
        self.assertEqual(told[0], "does")
        self.assertIs(lot_holds(hall=hall, stand=STAND, goal=GOAL, word="wall", lot=("x",), thing=told), True)
        told[1].clear()
        self.assertNotEqual(lot_paper(hall, STAND, GOAL, "wall", ("x",))[1], [])
        self.assertEqual(hall, fork_hall())

    def test_the_empty_forcing_paper_where_the_stand_is_met(self):
        hall = fork_hall()
        for word in WORDS:
            for lot in all_lots(names_of(hall, word)):
                self.assertEqual(lot_paper(hall, STAND, (), word, lot), ("not" if word == "wall" else "does", []))
        # A walled door isn't open any more.
        self.assertEqual(lot_paper(hall, STAND, (("open", "x"),), "wall", ("y",)), ("not", []))
        self.assertEqual(lot_paper(hall, STAND, (("open", "x"),), "wall", ("x",))[0], "does")
        self.assertEqual(lot_paper(hall, STAND, (("open", "z"),), "open", ("z",)), ("does", []))
        self.assertEqual(lot_paper(hall, STAND, (("open", "z"),), "open", ("x", "y"))[0], "not")


class LotHoldsTest(unittest.TestCase):
    # W from a by x to b and by y to c, three stands.
    A, B, C = [(0, (room,), ("a", "a")) for room in "abc"]

    def holds(self, word, lot, thing, is_let_by, goal=GOAL, stand=STAND):
        self.assertIs(lot_holds(fork_hall(), stand, goal, word, lot, thing), is_let_by, (word, lot, thing))

    def test_forcing_papers(self):
        paper = [(self.A, 2, 2), (self.B, 1, 1)]
        for word, lot, told in (("open", (), "does"), ("weigh", ("s", "t"), "does"), ("walk", ("w",), "does"),
                                ("force", ("w",), "does"), ("wall", ("z",), "not"), ("wall", (), "not")):
            other = {"does": "not", "not": "does"}[told]
            self.holds(word, lot, (told, paper), True)
            self.holds(word, lot, (told, paper[::-1]), True)
            # Another number, another rank.
            self.holds(word, lot, (told, [(self.A, 9, 7), (self.B, 4, 5)]), True)
            self.holds(word, lot, (told, [(self.A, 1, 2), (self.B, 1, 1)]), False)
            self.holds(word, lot, (told, [(self.A, 2, 1), (self.B, 1, 1)]), False)
            self.holds(word, lot, (told, [(self.A, 2, 2), (self.B, 1, 0)]), False)
            # A row out, a row twice, the stand's row out.
            self.holds(word, lot, (told, paper[:1]), False)
            self.holds(word, lot, (told, paper[1:]), False)
            self.holds(word, lot, (told, paper + paper[:1]), False)
            self.holds(word, lot, (told, []), False)
            self.forms(word, lot, told, other, paper)
            # A paper of the other kind.
            self.holds(word, lot, (told, [(self.A, None), (self.B, None)]), False)
            self.holds(word, lot, (told, [(self.A, 2), (self.B, 1)]), False)

    def forms(self, word, lot, told, other, paper):
        """Other words, lists in the place of tuples, and more."""
        for thing in ([told, paper], (told, tuple(paper)), (told,), (told, paper, paper), (paper, told), paper, (),
                      (other, paper), (told.upper(), paper), ("", paper), (None, paper), (True, paper), (word, paper),
                      ([told], paper), ((told,), paper), ({told: paper},), {told: paper}, (told, {self.A: 1}),
                      (told, [list(row) for row in paper]), (told, [(list(row[0]), *row[1:]) for row in paper]),
                      (told, [row + (1,) for row in paper]), (told, paper + [None])):
            self.holds(word, lot, thing, False)
        for thing in ANYTHING:
            self.holds(word, lot, thing, False)
            self.holds(word, lot, (told, thing), False)
            self.holds(word, lot, (thing, paper), False)
            self.holds(word, lot, (thing, thing), False)

    def test_barring_papers(self):
        paper = [(self.A, None), (self.B, None)]
        for word, lot, told, stand in (("open", ("x",), "not", (0, ("a",), ("c", "c"))), ("weigh", ("s",), "not", STAND),
                                       ("walk", (), "not", STAND), ("force", (), "not", STAND),
                                       ("wall", ("y",), "does", STAND)):
            other = {"does": "not", "not": "does"}[told]
            rows = [((0, room, stand[2]), number) for (_, room, _), number in paper]
            self.holds(word, lot, (told, rows), True, stand=stand)
            self.holds(word, lot, (told, rows[::-1]), True, stand=stand)
            self.holds(word, lot, (told, rows + rows[:1]), False, stand=stand)
            self.holds(word, lot, (told, rows[1:]), False, stand=stand)
            self.holds(word, lot, (told, []), False, stand=stand)
            self.holds(word, lot, (other, rows), False, stand=stand)
            self.holds(word, lot, [told, rows], False, stand=stand)
            self.holds(word, lot, (told, tuple(rows)), False, stand=stand)
            # Numbers in the place of None show nothing, though such a paper may be let by.
            self.holds(word, lot, (told, [(rows[0][0], 1)]), False, stand=stand)
            self.holds(word, lot, (told, [(rows[0][0], 1)] + rows[1:]), False, stand=stand)
            self.holds(word, lot, (told, [(spot, 1, 1) for spot, _ in rows]), False, stand=stand)
            for thing in ANYTHING:
                self.holds(word, lot, thing, False, stand=stand)
                self.holds(word, lot, (told, thing), False, stand=stand)
                self.holds(word, lot, (thing, rows), False, stand=stand)
        # With y walled c isn't come to from b; with x walled the stand's own row is enough.
        self.holds("wall", ("y",), ("does", paper[:1]), False)
        self.holds("wall", ("x",), ("does", paper[:1]), True)

    def test_another_lots_paper(self):
        self.holds("wall", ("x",), lot_paper(fork_hall(), STAND, GOAL, "wall", ("x",)), True)
        self.holds("wall", (), lot_paper(fork_hall(), STAND, GOAL, "wall", ("x",)), False)
        self.holds("wall", ("z",), lot_paper(fork_hall(), STAND, GOAL, "wall", ("y",)), False)
        self.holds("weigh", ("s",), lot_paper(fork_hall(), STAND, GOAL, "weigh", ("s", "t")), False)

    def test_whatever_rows_where_the_stand_is_met(self):
        goal = (("at", "w", "c"),)
        for word, lot, told in (("open", (), "does"), ("weigh", ("s", "t"), "does"), ("walk", ("w",), "does"),
                                ("force", ("w",), "does"), ("wall", (), "not")):
            for paper in ([], [(self.B, 1, 1)], [(self.A, 2, 2), (self.B, 1, 1)], [(self.B, 7, 7)]):
                self.holds(word, lot, (told, paper), True, goal, self.C)
            for paper in ([(self.B, 0, 1)], [(self.A, 2, 2)], [(self.C, 1, 1)], [(self.B, None)], None, ()):
                self.holds(word, lot, (told, paper), False, goal, self.C)
            other = {"does": "not", "not": "does"}[told]
            for paper in ([], [(self.B, 1)], [(self.C, None)], [(self.B, 1, 1)]):
                self.holds(word, lot, (other, paper), False, goal, self.C)

    def test_papers_of_the_dices_halls_with_something_changed(self):
        dice = Random(104)
        told = []
        for hall, stand, goal, word in lot_cases(40, 105):
            lot = dice.choice(all_lots(names_of(hall, word)))
            kind, paper = lot_paper(hall, stand, goal, word, lot)
            play = own_play(hall, goal, word, lot)
            for _ in range(4):
                rows = [row for row in paper if dice.random() < 0.9]
                rows = [(row[0], *[number if dice.random() < 0.9 or number is None else number + dice.choice([-1, 1])
                                   for number in row[1:]]) for row in rows]
                if (kind == "does") is not (word == "wall"):
                    holds = forces(play, rows) and (play.met(stand) or stand in [row[0] for row in rows])
                else:
                    holds = bars(play, rows) and (stand, None) in rows
                self.assertIs(lot_holds(hall, stand, goal, word, lot, (kind, rows)), holds)
                told.append(holds)
        self.assertGreater(told.count(True), 20)
        self.assertGreater(told.count(False), 20)


class CoversTest(unittest.TestCase):
    def slow_covers(self, names, does, fails):
        for lot in all_lots(names):
            above = [one for one in does if set(one) <= set(lot)]
            below = [one for one in fails if set(lot) <= set(one)]
            if bool(above) is bool(below):
                return False
        return True

    def test_none_to_six_names_in_any_order(self):
        self.assertIs(covers([], [()], []), True)
        self.assertIs(covers((), [], [()]), True)
        self.assertIs(covers([], [()], [()]), False)
        self.assertIs(covers([], [], []), False)
        for names in permutations("abc"):
            self.assertIs(covers(names, [("a", "b"), ("c",)], [("a",), ("b",)]), True)
            self.assertIs(covers(list(names), [("a", "b"), ("c",)], [("a",), ("b",)]), True)
            self.assertIs(covers(names=list(names), does=[("a", "b")], fails=[("a",), ("b",)]), False)
        six = list("fbdace")
        self.assertIs(covers(six, [()], []), True)
        self.assertIs(covers(six, [], [tuple("abcdef")]), True)
        twos, threes = list(combinations("abcdef", 2)), list(combinations("abcdef", 3))
        self.assertIs(covers(six, threes, twos), True)
        self.assertIs(covers(tuple(six), twos, [(one,) for one in "abcdef"]), True)

    def test_one_out_twice_too_many_and_exchanged(self):
        twos, threes = list(combinations("abcdef", 2)), list(combinations("abcdef", 3))
        for at in (0, 7, len(threes) - 1):
            self.assertIs(covers("abcdef", threes[:at] + threes[at + 1:], twos), False)
            self.assertIs(covers(list("abcdef"), threes + [threes[at]], twos), True)
        for at in (0, 7, len(twos) - 1):
            self.assertIs(covers(list("abcdef"), threes, twos[:at] + twos[at + 1:]), False)
            self.assertIs(covers(list("abcdef"), threes, twos + [twos[at]]), True)
        # Too many: within a greater one all the same, or in both.
        self.assertIs(covers(list("abcdef"), threes + [("a", "b", "c", "d")], twos + [("f",), ()]), True)
        self.assertIs(covers(list("abcdef"), threes + [("a", "b")], twos), False)
        self.assertIs(covers(list("abcdef"), threes, twos + [("a", "b", "c")]), False)
        self.assertIs(covers(list("abcdef"), twos, threes), False)
        self.assertIs(covers(list("abc"), [("a",)], [("b", "c")]), True)
        self.assertIs(covers(list("abc"), [("b", "c")], [("a",)]), False)

    def test_beside_a_reckoning_over_all_lots(self):
        dice = Random(106)
        told = []
        for _ in range(600):
            names = dice.sample("abcdef", dice.randint(0, 4))
            some = all_lots(names)
            weights = {name: dice.randint(0, 3) for name in names}
            least = dice.randint(0, 6)
            does = [lot for lot in some if sum(weights[name] for name in lot) >= least]
            fails = [lot for lot in some if lot not in does]
            does = [lot for lot in does if not any(set(other) < set(lot) for other in does)]
            fails = [lot for lot in fails if not any(set(lot) < set(other) for other in fails)]
            if dice.random() < 0.5:
                does = does + [dice.choice(some)]
            if dice.random() < 0.5:
                fails = fails[1:]
            kept = list(does), list(fails), list(names)
            told.append(covers(names, does, fails))
            self.assertIs(told[-1], self.slow_covers(names, does, fails))
            self.assertEqual((does, fails, names), kept)
        self.assertGreater(told.count(True), 50)
        self.assertGreater(told.count(False), 50)


class OneHallTest(unittest.TestCase):
    def test_answers_hang_on_nothing_asked_ahead(self):
        hall = fork_hall()
        asked = [(stand, goal, word) for stand in (STAND, (0, ("b",), ("a", "c"))) for goal in (GOAL, (), GOAL[:0])
                 for word in WORDS]
        told = [lots(fork_hall(), *question) for question in asked]
        self.assertEqual([lots(hall, *question) for question in asked], told)
        self.assertEqual([lots(hall, *question) for question in asked[::-1]], told[::-1])

    def test_orders_change_nothing(self):
        parts = parts_of(fork_hall())
        other = remade(fork_hall(), doors=parts["doors"][::-1], stones=parts["stones"][::-1], rooms=("c", "a", "b"))
        for word in WORDS:
            self.assertEqual(lots(other, STAND, GOAL, word), lots(fork_hall(), STAND, GOAL, word))


if __name__ == "__main__":
    unittest.main()
