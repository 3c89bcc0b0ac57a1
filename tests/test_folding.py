"""Promise 40: folded plays, and their papers unfolded."""

import unittest
from random import Random

from manyspots import full_hall
from remade import remade, renamed_stand, slow_turnings, star_hall, twos
from samples import ANYTHING, STAND, make_hall, some_stand
from slowplays import graph_of, slow_met, slow_moves, slow_values, some_goal
from test_turnings import symmetric_halls
from weighdoors.counting import count_ways, number_of, way_at
from weighdoors.errors import NoReply, NoTurning, TooMany
from weighdoors.folding import Folded, unfolded
from weighdoors.halls import Hall
from weighdoors.papers import bars, foil, forces, reply
from weighdoors.plays import Play
from weighdoors.reaching import reach
from weighdoors.turnings import turnings
from weighdoors.values import barring, cheapest, forcing, value

HALL = star_hall()
STONES, ROOMS = twos(("sa", "sb")), twos(("ra", "rb"), ("da", "db"))


def folded_cases(many, seed):
    """Halls with turnings that keep a goal, told by the dice: hall, stand, goal, turnings, all that come of them."""
    dice = Random(seed)
    for hall in symmetric_halls(100 * many, seed + 1):
        stand = some_stand(hall, dice)
        if graph_of(lambda spot: slow_moves(hall, spot), stand, 400) is None:
            continue
        goal = some_goal(hall, stand, dice)
        keep = [turning for turning in slow_turnings(hall) if keeps(turning, goal)]
        some = [dice.choice(keep) for _ in range(dice.randint(0, 3))]
        yield hall, stand, goal, some, turnings(hall, some, most=10 ** 4)
        many -= 1
        if many == 0:
            return


def keeps(turning, goal):
    """Whether a turning turns the goal's wishes into the same, in whatever order."""
    names = dict(turning)
    return {tuple(names.get(part, part) if at else part for at, part in enumerate(wish)) for wish in goal} == set(goal)


def slow_least(hall, stand, every):
    """The least of all stands into which the turnings turn a stand."""
    return min(renamed_stand(hall, dict(turning), stand) for turning in every)


class NoTurningTest(unittest.TestCase):
    def refused(self, play, some, at):
        for kind in (list, tuple):
            with self.assertRaises(NoTurning) as caught:
                Folded(play, kind(some))
            self.assertEqual(caught.exception.at, at)

    def test_what_is_none(self):
        play = Play(HALL, ())
        for thing in ANYTHING + [list(STONES), STONES[::-1], STONES[:1], twos(("ra", "rb")), twos(("w", "x"))]:
            if thing != () or not isinstance(thing, tuple):
                self.refused(play, [thing], 0)
                self.refused(play, [STONES, thing, ROOMS, thing], 1)
                self.refused(play, [(), ROOMS, thing], 2)

    def test_what_turns_the_wishes_into_others(self):
        for goal in ((("at", "w", "ra"),), (("open", "da"),), (("bears", "ra", 1), ("bears", "rb", 2)),
                     (("at", "w", "mid"), ("bears", "rb", 0)), (("open", "da"), ("open", "dc"))):
            self.refused(Play(HALL, goal), [STONES, ROOMS], 1)
            self.refused(Play(HALL, goal), [STONES, ROOMS, None], 1)
            self.refused(Play(HALL, goal), [None, ROOMS], 0)
            Folded(Play(HALL, goal), [STONES, (), STONES])
        for goal in ((("lies", "sa", "mid"),), (("held", "sb", "w"),), (("lies", "sa", "ra"), ("lies", "sb", "rb"))):
            self.refused(Play(HALL, goal), [(), STONES], 1)
        both = twos(("ra", "rb"), ("da", "db"), ("sa", "sb"))
        self.refused(Play(HALL, (("lies", "sa", "ra"), ("lies", "sb", "rb"))), [both, ROOMS], 1)

    def test_order_and_doubles_aside(self):
        goal = (("bears", "ra", 1), ("at", "w", "mid"), ("bears", "rb", 1), ("bears", "ra", 1), ("open", "nosuch"))
        for some in ([ROOMS], (ROOMS, STONES), [STONES, ROOMS, ROOMS]):
            self.assertIs(Folded(Play(HALL, goal), some).met((0, ("mid",), ("ra", "rb"))), False)
        Folded(Play(HALL, (("lies", "sa", "ra"), ("lies", "sb", "ra"), ("lies", "sb", "ra"))), [STONES])
        Folded(Play(HALL, ()), [ROOMS, STONES])

    def like_stones(self, many, goal=()):
        names = [f"s{letter}" for letter in "abcdefghijkl"[:many]]
        hall = Hall(["a", "b"], [("d", "a", "b", "both", [])], [(name, 1) for name in names], [("w", 1, 1)])
        return Play(hall, goal), [twos(pair) for pair in zip(names, names[1:])]

    def test_then_too_many(self):
        play, some = self.like_stones(5)
        Folded(play, some)
        play, some = self.like_stones(6)
        with self.assertRaises(TooMany) as caught:
            Folded(play, some)
        self.assertEqual(caught.exception.most, 200)
        self.refused(play, some + [None], 5)
        self.refused(self.like_stones(6, (("held", "sf", "w"),))[0], some, 4)


class SpotsTest(unittest.TestCase):
    def test_least(self):
        folded = Folded(Play(HALL, ()), [STONES])
        for stand, least in (((0, ("ra",), ("rb", "mid")), (0, ("ra",), ("mid", "rb"))),
                             ((0, ("ra",), ("w", "mid")), (0, ("ra",), ("mid", "w"))),
                             ((0, ("ra",), ("mid", "w")), (0, ("ra",), ("mid", "w")))):
            self.assertEqual(folded.least(stand), least)
            self.assertEqual(folded.least(stand=least), least)
        about = Folded(play=Play(HALL, ()), turnings=[ROOMS, STONES])
        self.assertEqual(about.least((0, ("rb",), ("ra", "rb"))), (0, ("ra",), ("ra", "rb")))
        self.assertEqual(about.least((0, ("rb",), ("mid", "ra"))), (0, ("ra",), ("mid", "rb")))
        both = Folded(Play(HALL, ()), [twos(("ra", "rb"), ("da", "db"), ("sa", "sb"))])
        self.assertEqual(both.least((0, ("rb",), ("ra", "mid"))), (0, ("ra",), ("mid", "rb")))
        self.assertEqual(both.least((0, ("mid",), ("rb", "mid"))), (0, ("mid",), ("mid", "ra")))
        self.assertEqual(both.least((0, ("mid",), ("ra", "rb"))), (0, ("mid",), ("ra", "rb")))

    def test_is_spot(self):
        folded = Folded(Play(HALL, ()), [STONES, ROOMS])
        for thing, is_one in (((0, ("ra",), ("mid", "rb")), True), ((0, ("ra",), ("rb", "mid")), False),
                              ((0, ("rb",), ("mid", "rb")), False), ((0, ("rc",), ("ra", "rb")), True),
                              ((0, ("rc",), ("rb", "rb")), False), ((False, ("ra",), ("mid", "rb")), False),
                              ((1, ("ra",), ("mid", "rb")), False), ([0, ("ra",), ("mid", "rb")], False),
                              ((0, ["ra"], ("mid", "rb")), False), ((0, ("ra",), ("w", "w")), False)):
            self.assertIs(folded.is_spot(thing), is_one, thing)
            self.assertIs(folded.is_spot(thing=thing), is_one)
        for thing in ANYTHING:
            self.assertIs(folded.is_spot(thing), False)
            self.assertIs(folded.is_spot((0, thing, ("mid", "rb"))), False)

    def test_of_the_dices_halls(self):
        dice = Random(120)
        unlike = 0
        for hall, stand, goal, some, every in folded_cases(60, 121):
            play = Play(hall, goal)
            folded = Folded(play, some)
            graph = graph_of(lambda spot: slow_moves(hall, spot), stand)
            for spot in dice.sample(sorted(graph), min(len(graph), 20)):
                least = slow_least(hall, spot, every)
                self.assertEqual(folded.least(spot), least)
                self.assertIs(folded.is_spot(spot), spot == least)
                self.assertIs(folded.met(least), slow_met(hall, least, goal))
                self.assertEqual(folded.moves(least), [(deed, price, slow_least(hall, behind, every))
                                                       for deed, price, behind in play.moves(least)])
                unlike += spot != least
            self.assertEqual(reach(folded, folded.least(stand)), sorted({slow_least(hall, spot, every) for spot in graph}))
        self.assertGreater(unlike, 50)


class PlayTest(unittest.TestCase):
    def test_sides_still_ones_and_prices(self):
        hall = remade(HALL, walkers=[("w", 1, 1), ("v", 1, 0)])
        play = Play(hall, (), prices=(2, 3, 4, 5), side=["v"], still=["w"])
        folded = Folded(play, [STONES, ROOMS])
        first, second = (0, ("mid", "mid"), ("mid", "mid")), (1, ("mid", "mid"), ("mid", "mid"))
        self.assertEqual(folded.moves(first), [(("wait",), 5, second)])
        self.assertEqual(folded.moves(spot=second), [
            (("go", "da"), 2, (0, ("mid", "ra"), ("mid", "mid"))), (("go", "db"), 2, (0, ("mid", "ra"), ("mid", "mid"))),
            (("go", "dc"), 2, (0, ("mid", "rc"), ("mid", "mid"))), (("wait",), 5, first)])
        self.assertIs(folded.ours(first), False)
        self.assertIs(folded.ours(spot=second), True)
        self.assertIs(folded.met(spot=second), True)
        lifts = Folded(Play(hall, (), prices=(2, 3, 4, 5)), [STONES, ROOMS]).moves(first)
        self.assertEqual([move for move in lifts if move[0][0] == "lift"],
                         [(("lift", "sa"), 3, (1, ("mid", "mid"), ("mid", "w"))),
                          (("lift", "sb"), 3, (1, ("mid", "mid"), ("mid", "w")))])

    def test_values_ways_and_papers_of_the_dices_halls(self):
        dice = Random(122)
        told = {"none": 0, "number": 0, "turned": 0}
        for hall, stand, goal, some, every in folded_cases(80, 123):
            options = {"prices": tuple(dice.choice([0, 1, 2]) for _ in range(4)),
                       "side": dice.choice([None, None, [], ["w"], ["v"]]), "still": dice.choice([(), (), ["v"]])}
            play = Play(hall, goal, **options)
            folded = Folded(play, some)
            graph = graph_of(lambda spot: slow_moves(hall, spot, options["prices"], options["still"]), stand)
            values = slow_values(graph, lambda spot: slow_met(hall, spot, goal), play.ours)
            for spot in dice.sample(sorted(graph), min(3, len(graph))):
                least = folded.least(spot)
                number = value(folded, least)
                self.assertEqual(number, values[spot])
                self.assertEqual(value(play, least), number)
                told["none" if number is None else "number"] += 1
                for length in (0, 1, 2, 5, 12):
                    self.assertEqual(count_ways(folded, least, length), count_ways(play, spot, length))
                self.check_papers(play, folded, least, every)
                told["turned"] += least != spot
        self.assertGreater(min(told.values()), 20, told)

    def check_papers(self, play, folded, spot, every):
        """The folded play's papers are let by, and unfolded in the play, each spot turned by each turning once."""
        for ask, look in ((barring, bars), (forcing, forces)):
            paper = ask(folded, spot)
            self.assertIs(look(folded, paper), True)
            kept = list(paper)
            told = unfolded(folded, paper)
            self.assertIs(type(told), list)
            self.assertEqual(paper, kept)
            self.assertIs(look(play, told), True)
            self.assertEqual(len(told), len({row[0] for row in told}))
            hall = play.hall()
            self.assertEqual(set(told), {(renamed_stand(hall, dict(turning), row[0]), *row[1:])
                                         for row in paper for turning in every})

    def test_replies_foils_and_ways(self):
        play = Play(HALL, (("bears", "rc", 6),))
        folded = Folded(play, [STONES, ROOMS])
        stand = folded.least((0, ("mid",), ("rb", "mid")))
        forced = forcing(folded, stand)
        self.assertIn(reply(folded, forced, stand), folded.moves(stand))
        self.assertRaises(NoReply, reply, folded, forced, (0, ("mid",), ("rb", "mid")))
        self.assertRaises(NoReply, foil, folded, barring(folded, stand), stand)
        theirs = Folded(Play(HALL, (("bears", "rc", 6),), side=[]), [STONES, ROOMS])
        self.assertIn(foil(theirs, barring(theirs, stand), stand), theirs.moves(stand))
        self.assertEqual(cheapest(folded, stand)[0], cheapest(play, stand)[0])
        many = count_ways(folded, stand, 7)
        ways = [way_at(folded, stand, 7, number) for number in range(many)]
        self.assertEqual(ways, sorted(set(ways)))
        self.assertEqual([number_of(folded, stand, way) for way in ways], list(range(many)))

    def test_folded_by_nothing(self):
        play = Play(make_hall(), (("at", "ann", "cave"),), side=["ann"])
        for some in ([], (), [()], ((), ())):
            folded = Folded(play, some)
            self.assertEqual(folded.least(STAND), STAND)
            self.assertEqual(reach(folded, STAND), reach(play, STAND))
            self.assertEqual(value(folded, STAND), value(play, STAND))
            self.assertEqual(folded.moves(STAND), play.moves(STAND))
            paper = barring(folded, STAND)
            self.assertEqual(sorted(unfolded(folded=folded, paper=paper)), sorted(paper))
            self.assertEqual(unfolded(folded, []), [])

    def test_the_turnings_changed_behind_the_call(self):
        some = [STONES]
        folded = Folded(Play(HALL, ()), some)
        some[0] = ROOMS
        some.append(ROOMS)
        self.assertEqual(folded.least((0, ("rb",), ("rb", "mid"))), (0, ("rb",), ("mid", "rb")))
        told = folded.moves((0, ("mid",), ("mid", "mid")))
        folded.moves((0, ("mid",), ("mid", "mid"))).clear()
        self.assertEqual(folded.moves((0, ("mid",), ("mid", "mid"))), told)

    def test_plays_asked_by_turns(self):
        plays = [Play(HALL, (("bears", room, 6),)) for room in ("rc", "mid")]
        folded = [Folded(play, some) for play in plays for some in ([], [STONES], [STONES, ROOMS])]
        stands = [(0, (room,), places) for room in ("ra", "mid", "rc") for places in (("rb", "ra"), ("w", "mid"))]
        told = [[(one.least(stand), value(one, one.least(stand))) for stand in stands] for one in folded]
        for _ in range(2):
            again = [[(one.least(stand), value(one, one.least(stand))) for one in folded] for stand in stands]
            self.assertEqual([list(row) for row in zip(*again)], told)


class ManySpotsTest(unittest.TestCase):
    def test_most(self):
        folded = Folded(Play(HALL, (("bears", "rc", 6),)), [STONES, ROOMS])
        many = len(reach(folded, (0, ("mid",), ("mid", "mid"))))
        self.assertLess(many, len(reach(Play(HALL, ()), (0, ("mid",), ("mid", "mid")))))
        for ask in (reach, value, barring, forcing, cheapest):
            ask(folded, (0, ("mid",), ("mid", "mid")), most=many)
            self.assertRaises(TooMany, ask, folded, (0, ("mid",), ("mid", "mid")), most=many - 1)

    def test_a_hundred_and_twenty_turnings(self):
        rooms = [f"r{letter}" for letter in "abcdef"]
        doors = [(f"d{one[1]}", one, other, "both", []) for one, other in zip(rooms, rooms[1:] + rooms[:1])]
        stones = [f"s{letter}" for letter in "abcde"]
        hall = Hall(rooms, doors, [(stone, 1) for stone in stones], [("w", 1, 5)])
        play = Play(hall, tuple(("lies", stone, "rc") for stone in stones))
        folded = Folded(play, [twos(pair) for pair in zip(stones, stones[1:])])
        stand = (0, ("ra",), ("ra",) * 5)
        # How many stones lie in each room, or are carried: 11 over 5 and 6 rooms of w.
        self.assertEqual(len(reach(folded, stand, most=5000)), 462 * 6)
        self.assertEqual(value(folded, stand, most=5000), 5 + 2 + 5)
        paper = barring(folded, stand, most=5000)
        self.assertIs(bars(folded, paper), True)
        self.assertIs(bars(play, unfolded(folded, paper)), True)

    def test_twelve_stones_and_six_walkers(self):
        hall, stand, goal = full_hall()
        like = [f"t{letter}" for letter in "abcdefghi"]
        play = Play(hall, goal, side=["ann", "bob"])
        folded = Folded(play, [twos(like[:2]), tuple(sorted(zip(like[2:7], like[3:7] + like[2:3])))])
        self.assertEqual(value(folded, folded.least(stand), most=5000), value(play, stand, most=5000))
        paper = forcing(folded, folded.least(stand), most=5000)
        self.assertIs(forces(play, unfolded(folded, paper)), True)


if __name__ == "__main__":
    unittest.main()
