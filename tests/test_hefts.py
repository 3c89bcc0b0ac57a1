"""Promise 32: rising halls and least hefts."""

import unittest
from random import Random

from manyspots import corridors, full_hall
from remade import all_from, comes, rising, small_cases, with_hefts
from samples import great_hall, make_hall, some_pairs
from weighdoors.errors import NotRising, TooMany
from weighdoors.halls import Hall
from weighdoors.hefts import is_rising, least_heft
from weighdoors.papers import bars
from weighdoors.plays import Play
from weighdoors.ways import played

NONE, MOST = [("a", 1, None), ("b", 2, None)], [("a", 1, None), ("b", 2, 2)]


def hall_of(*rows):
    """Rooms a and b, and doors da, db, dc between them with these rows."""
    doors = [(f"d{letter}", "a", "b", "both", some) for letter, some in zip("abcdef", rows)]
    return Hall(["a", "b"], doors, [("s", 1), ("t", 1)], [("w", 1, 1)])


def plate_hall(least=10, stones="st", heft=1, hands=1):
    """The floor of a holds the door to b; what lies in a weighs alone there, as the goer doesn't."""
    return Hall(["a", "b"], [("d", "a", "b", "both", [("a", least, None)])], [(one, heft) for one in stones],
                [("w", 50, hands)])


GOAL = (("at", "w", "b"),)


class RisingTest(unittest.TestCase):
    def test_no_most(self):
        for hall in (Hall(["a"], [], [], [("w", 1, 1)]), hall_of(), hall_of([]), hall_of(NONE), hall_of(NONE, [], NONE),
                     hall_of([("a", 9999999, None)]), rising(make_hall()), rising(great_hall())):
            self.assertIs(is_rising(hall), True)
        self.assertIs(is_rising(hall=hall_of()), True)

    def test_one_most_alone(self):
        for hall in (hall_of(MOST), hall_of(MOST, NONE), hall_of(NONE, [], MOST), hall_of([("a", 0, 9999999)]),
                     hall_of([("a", 0, 0)]), hall_of([], [("a", 0, 7), ("b", 1, None)]), make_hall(), great_hall()):
            self.assertIs(is_rising(hall), False)

    def test_of_the_dices_halls(self):
        for hall, _ in some_pairs(80, 80):
            mosts = [most for door in hall.doors() for _, _, most in hall.door(door)[3]]
            self.assertIs(is_rising(hall), mosts.count(None) == len(mosts))
            self.assertIs(is_rising(rising(hall)), True)


class NotRisingTest(unittest.TestCase):
    def test_the_first_door_that_has_a_most(self):
        stand = (0, ("a",), ("a", "a"))
        for hall, name in ((hall_of(MOST), "da"), (hall_of(NONE, MOST, MOST), "db"), (hall_of([], NONE, MOST), "dc"),
                           (hall_of(MOST, NONE, MOST), "da"), (hall_of([("a", 0, 0)]), "da")):
            for most in (1, 2000):
                for goal in ((), GOAL):
                    with self.assertRaises(NotRising) as caught:
                        least_heft(hall, stand, goal, ["s"], most=most)
                    self.assertEqual(caught.exception.name, name)


class LeastHeftTest(unittest.TestCase):
    def check(self, hall, stand, goal, stones, top):
        """What is told beside a search of each heft; told is the least one."""
        def heavy(heft):
            return with_hefts(hall, {stone: heft for stone in stones})

        least = next((heft for heft in range(top + 1) if comes(heavy(heft), stand, goal)), None)
        told = least_heft(hall, stand, goal, stones)
        self.assertEqual((type(told), len(told), told[0]), (tuple, 3, least))
        _, way, paper = told
        if least is None:
            self.assertIsNone(way)
        else:
            self.assertIs(type(least), int)
            self.assertIs(type(way), tuple)
            for heft in [*range(least, top + 1), top + 1, top + 50, 9999999]:
                play = Play(heavy(heft), goal)
                self.assertTrue(play.met(played(heavy(heft), stand, way)[-1]))
        self.assertIs(type(paper), list)
        below = range(top + 1 if least is None else least)
        if least == 0:
            self.assertEqual(paper, [])
        else:
            self.assertIn((stand, None), paper)
        for heft in below:
            self.assertIs(bars(Play(heavy(heft), goal), paper), True)
        self.assertEqual(least_heft(hall, stand, goal, stones), told)
        return least

    def test_one_stone_and_several(self):
        hall = plate_hall()
        stand = (0, ("a",), ("a", "a"))
        self.assertEqual(self.check(hall, stand, GOAL, ["s"], 10), 9)
        self.assertEqual(self.check(hall, stand, GOAL, ["s", "t"], 10), 5)
        self.assertEqual(self.check(plate_hall(11), stand, GOAL, ["t", "s"], 11), 6)
        self.assertEqual(self.check(plate_hall(1, heft=7), stand, GOAL, ["t"], 1), 0)
        self.assertEqual(self.check(plate_hall(0), stand, GOAL, ["t"], 0), 0)

    def test_the_stones_own_hefts_count_for_nothing(self):
        stand = (0, ("a",), ("a", "a"))
        for heft in (0, 3, 9999999):
            self.assertEqual(self.check(plate_hall(heft=heft), stand, GOAL, ["s", "t"], 10), 5)

    def test_all_twelve_as_a_list_and_a_tuple_in_any_order(self):
        names = "abcdefghijkl"
        rooms = ["p", "q"]
        hall = Hall(rooms, [("door", "p", "q", "both", [("p", 9999999, None)])], [(f"s{one}", 0) for one in names],
                    [("w", 1, 0)])
        stand = (0, ("p",), ("p",) * 12)
        stones = hall.stones()
        for some in (stones, tuple(stones), stones[::-1], stones[5:] + stones[:5]):
            handed = list(some) if isinstance(some, list) else some
            told = least_heft(hall, stand, (("at", "w", "q"),), handed)
            self.assertEqual(told[:2], (833334, (("go", "door"),)))
            self.assertIn((stand, None), told[2])
            self.assertEqual(handed, some)

    def test_carried_stones(self):
        # W carries both: it must lay them first, and with one hand it must lay one and could not lift it again.
        for places in (("w", "w"), ("w", "a"), ("a", "w"), ("w", "b")):
            hall = plate_hall(hands=2)
            least = {("w", "b"): 10}.get(places, 5)
            self.assertEqual(self.check(hall, (0, ("a",), places), GOAL, ["s", "t"], 10), least)
        self.assertIsNone(self.check(plate_hall(), (0, ("a",), ("b", "b")), GOAL, ["s", "t"], 10))
        # Carried through the door a stone weighs nowhere.
        goal = GOAL + (("held", "t", "w"),)
        self.assertEqual(self.check(plate_hall(), (0, ("a",), ("a", "a")), goal, ["s", "t"], 10), 10)

    def test_wishes_that_bear(self):
        hall = Hall(["a"], [], [("s", 1), ("t", 1)], [("w", 3, 1)])
        stand = (0, ("a",), ("a", "a"))
        self.assertEqual(self.check(hall, stand, (("bears", "a", 4),), ["s", "t"], 4), 1)
        self.assertEqual(self.check(hall, stand, (("bears", "a", 4),), ["s"], 4), 0)
        self.assertEqual(self.check(hall, stand, (("bears", "a", 9), ("bears", "a", 5)), ["t"], 9), 5)
        self.assertEqual(least_heft(hall, stand, (("bears", "a", 9999999),), ["t"])[0], 9999995)

    def test_none(self):
        stand = (0, ("b",), ("a", "a"))
        hall = Hall(["a", "b", "c"], [("d", "a", "b", "on", [("a", 4, None)])], [("s", 1), ("t", 1)], [("w", 9, 1)])
        for goal in ((("at", "w", "c"),), (("at", "w", "a"),), (("open", "nosuch"),), (("at", "w", "a"), ("bears", "b", 9))):
            self.assertIsNone(self.check(hall, stand, goal, ["s", "t"], 9))
        # Without rows and wishes that bear the greatest least is nought.
        hall = Hall(["a", "b"], [], [("s", 1)], [("w", 9, 1)])
        told = least_heft(hall, (0, ("a",), ("a",)), GOAL, ["s"])
        self.assertEqual(told[:2], (None, None))
        self.assertEqual(sorted(told[2]), [((0, ("a",), ("a",)), None), ((0, ("a",), ("w",)), None)])

    def test_at_once(self):
        hall = plate_hall()
        for goal, stand in (((), (0, ("a",), ("a", "a"))), (GOAL, (0, ("b",), ("a", "a")))):
            self.assertEqual(least_heft(hall=hall, stand=stand, goal=goal, stones=["s"], most=50), (0, (), []))

    def test_beside_a_search_of_each_heft(self):
        dice = Random(81)
        told = []
        for case in small_cases(120, 82, fits=lambda case: case.hall.stones()):
            hall = rising(case.hall)
            stones = dice.sample(hall.stones(), dice.randint(1, len(hall.stones())))
            top = max([row[1] for door in hall.doors() for row in hall.door(door)[3]]
                      + [wish[2] for wish in case.goal if wish[0] == "bears"], default=0)
            if len(all_from(with_hefts(hall, {stone: top for stone in stones}), case.stand)) <= 2000:
                told.append(self.check(hall, case.stand, case.goal, dice.choice([list, tuple])(stones), top))
        self.assertGreater(told.count(None), 5)
        self.assertGreater(told.count(0), 5)
        self.assertGreater(len([heft for heft in told if heft]), 5)

    def test_the_hall_stays_as_it_was(self):
        hall, stones = plate_hall(), ["t", "s"]
        told = least_heft(hall, (0, ("a",), ("a", "a")), GOAL, stones)
        self.assertEqual((hall, stones), (plate_hall(), ["t", "s"]))
        told[2].clear()
        self.assertNotEqual(least_heft(hall, (0, ("a",), ("a", "a")), GOAL, stones)[2], [])
        self.assertRaises(TypeError, least_heft, hall, (0, ("a",), ("a", "a")), GOAL, stones, 2000)


class TooManyTest(unittest.TestCase):
    def check(self, hall, stand, goal, stones, many):
        told = least_heft(hall, stand, goal, stones, most=many)
        self.assertEqual(least_heft(hall, stand, goal, stones, most=many + 1)[:2], told[:2])
        if many > 1:
            with self.assertRaises(TooMany) as caught:
                least_heft(hall, stand, goal, stones, most=many - 1)
            self.assertEqual(caught.exception.most, many - 1)

    def test_at_the_greatest_least(self):
        # With a stone of heft 10 the door lets w by, who then carries the other one about: far more can be come to.
        hall = plate_hall()
        stand = (0, ("a",), ("a", "a"))
        many = len(all_from(with_hefts(hall, {"s": 10}), stand))
        self.assertGreater(many, len(all_from(hall, stand)))
        for goal in (GOAL, (), (("at", "w", "a"),), (("open", "nosuch"),), (("lies", "s", "a"),)):
            self.check(hall, stand, goal, ["s"], many)

    def test_heavier_than_the_greatest_least(self):
        # The stones' own hefts, ever so great, aren't asked.
        hall = plate_hall(heft=9999999, least=0)
        stand = (0, ("a",), ("a", "a"))
        self.check(hall, stand, GOAL, ["s"], len(all_from(hall, stand)))

    def test_beside_the_slow_model(self):
        for case in small_cases(60, 83, fits=lambda case: case.hall.stones()):
            hall = rising(case.hall)
            top = max([row[1] for door in hall.doors() for row in hall.door(door)[3]]
                      + [wish[2] for wish in case.goal if wish[0] == "bears"], default=0)
            many = len(all_from(with_hefts(hall, {stone: top for stone in hall.stones()}), case.stand))
            if many <= 2000:
                self.check(hall, case.stand, case.goal, hall.stones(), many)

    def test_the_default_of_two_thousand(self):
        hall, stand = corridors(7, 4, 4, 3, 1, 1)
        hall = Hall(hall.rooms(), [(name, *hall.door(name)) for name in hall.doors()], [("s", 1)],
                    [(name, 1, 0) for name in hall.walkers()])
        with self.assertRaises(TooMany) as caught:
            least_heft(hall, (*stand[:2], ("raa",)), (), ["s"])
        self.assertEqual(caught.exception.most, 2000)
        self.assertEqual(least_heft(hall, (*stand[:2], ("raa",)), (), ["s"], most=2016), (0, (), []))
        told = least_heft(hall, (*stand[:2], ("raa",)), (("open", "nosuch"),), ["s"], most=2016)
        self.assertEqual((*told[:2], len(told[2])), (None, None, 2016))

    def test_a_greater_hall(self):
        hall, stand, goal = full_hall()
        hall = rising(hall)
        # The gate's floor bears 7 and ann weighs 2; of the weight's own heft nothing hangs on any other one.
        heft, way, paper = least_heft(hall, stand, goal, ["weight"], most=5000)
        self.assertEqual(heft, 5)
        for weight, is_met in ((5, True), (9999999, True)):
            heavy = with_hefts(hall, {"weight": weight})
            self.assertIs(Play(heavy, goal).met(played(heavy, stand, way)[-1]), is_met)
        self.assertIn((stand, None), paper)
        self.assertIs(bars(Play(with_hefts(hall, {"weight": 4}), goal), paper), True)


if __name__ == "__main__":
    unittest.main()
