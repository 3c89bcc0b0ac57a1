"""Promise 33: changed halls, and halls beside one another."""

import unittest
from itertools import permutations
from random import Random

from samples import ANYTHING, STAND, TEXT, make_hall, some_pairs, some_stand
from slowplays import graph_of, slow_moves, some_cases, some_goal
from weighdoors.changes import beside, beside_stand, hefted, hollowed, opened, ordered, rowed, walled
from weighdoors.errors import NoName
from weighdoors.halls import Hall
from weighdoors.halltexts import read_hall, show_hall
from weighdoors.plays import Play
from weighdoors.reaching import reach
from weighdoors.stands import is_stand
from weighdoors.values import value


class ChangeTest(unittest.TestCase):
    def check(self, changed, *replaced):
        """A changed hall is as the text with this replaced, and the hall itself as it was."""
        text = TEXT
        for one, other in replaced:
            self.assertIn(one, text)
            text = text.replace(one, other)
        self.assertEqual(show_hall(changed), text)
        self.assertEqual(changed, read_hall(text))
        self.assertIs(type(changed), Hall)

    def setUp(self):
        self.hall = make_hall()
        self.assertEqual(show_hall(self.hall), TEXT)

    def tearDown(self):
        self.assertEqual(self.hall, make_hall())
        self.assertEqual(show_hall(self.hall), TEXT)

    def test_walled(self):
        self.check(walled(self.hall, "gate"), ("door gate cave yard both cave 3 - yard 0 12\n", ""))
        self.check(walled(hall=self.hall, door="slide"), ("door slide tower cave on\n", ""))
        self.check(walled(walled(self.hall, "arch"), "trap"), ("door arch tower yard both\n", ""),
                   ("door trap cave yard on tower 4 4\n", ""))

    def test_opened(self):
        self.check(opened(self.hall, "gate"), (" cave 3 - yard 0 12", ""))
        self.check(opened(hall=self.hall, door="trap"), (" tower 4 4", ""))
        self.check(opened(self.hall, "arch"))

    def test_rowed(self):
        for kind in (list, tuple):
            self.check(rowed(self.hall, "gate", kind([("yard", 1, 1), ("tower", 9999999, None), ("cave", 0, 0)])),
                       ("cave 3 - yard 0 12", "cave 0 0 tower 9999999 - yard 1 1"))
            self.check(rowed(hall=self.hall, door="slide", rows=kind([("yard", 2, None)])),
                       ("slide tower cave on", "slide tower cave on yard 2 -"))
            self.check(rowed(self.hall, "trap", kind([])), (" tower 4 4", ""))

    def test_rows_changed_behind_the_call(self):
        rows = [("yard", 1, 1), ("cave", 0, 0)]
        changed = rowed(self.hall, "gate", rows)
        self.assertEqual(rows, [("yard", 1, 1), ("cave", 0, 0)])
        rows.append(("tower", 1, 1))
        rows[0] = ("yard", 5, 5)
        self.check(changed, ("cave 3 - yard 0 12", "cave 0 0 yard 1 1"))

    def test_hefted(self):
        self.check(hefted(self.hall, "ball", 9999999), ("ball 4", "ball 9999999"))
        self.check(hefted(self.hall, "axe", 0), ("axe 3", "axe 0"))
        self.check(hefted(hall=self.hall, name="ann", heft=8), ("ann 7 2", "ann 8 2"))
        self.check(hefted(self.hall, "bob", 0), ("bob 5 1", "bob 0 1"))
        self.check(hefted(self.hall, "bob", 5))

    def test_hollowed(self):
        self.check(hollowed(self.hall, "ball"), ("ball 4", "ball 0"))
        self.check(hollowed(hall=self.hall, stone="axe"), ("axe 3", "axe 0"))

    def test_ordered(self):
        for kind in (list, tuple):
            self.check(ordered(self.hall, kind(["ann", "bob"])),
                       ("walker bob 5 1\nwalker ann 7 2", "walker ann 7 2\nwalker bob 5 1"))
            self.check(ordered(hall=self.hall, walkers=kind(["bob", "ann"])))
        walkers = ["ann", "bob"]
        changed = ordered(self.hall, walkers)
        walkers.reverse()
        self.assertEqual(changed.walkers(), ["ann", "bob"])
        self.assertEqual(walkers, ["bob", "ann"])

    def test_a_new_hall(self):
        for changed in (opened(self.hall, "arch"), hefted(self.hall, "bob", 5), ordered(self.hall, ["bob", "ann"])):
            self.assertEqual(changed, self.hall)
            self.assertIsNot(changed, self.hall)
            changed.rooms().clear()
            self.assertEqual(len(changed), 3)


class NoNameTest(unittest.TestCase):
    def refused(self, ask, thing, *more):
        with self.assertRaises(NoName) as caught:
            ask(make_hall(), thing, *more)
        self.assertIs(caught.exception.asked, thing)

    def test_doors(self):
        for thing in ANYTHING + ["cave", "yard", "ball", "ann", "bob", "nosuch", "Gate", ["gate"], ("gate",)]:
            self.refused(walled, thing)
            self.refused(opened, thing)
            self.refused(rowed, thing, [("cave", 1, None)])
            self.refused(rowed, thing, ())

    def test_stones_and_walkers(self):
        for thing in ANYTHING + ["cave", "yard", "gate", "arch", "nosuch", "Ann", ["ball"], ("ann",)]:
            self.refused(hefted, thing, 1)
            self.refused(hollowed, thing)

    def test_stones_alone(self):
        for thing in ("ann", "bob"):
            self.refused(hollowed, thing)


class BesideTest(unittest.TestCase):
    ONE = Hall(["b", "d"], [("da", "b", "d", "both", [("d", 0, 3)])], [("m", 1), ("s", 2)], [("y", 1, 1), ("x", 2, 2)])
    OTHER = Hall(["a", "c"], [("e", "c", "a", "on", [("c", 1, None)])], [("n", 3), ("t", 4)], [("w", 5, 3)])

    def test_the_ones_walkers_ahead(self):
        both = Hall(["a", "b", "c", "d"],
                    [("da", "b", "d", "both", [("d", 0, 3)]), ("e", "c", "a", "on", [("c", 1, None)])],
                    [("m", 1), ("n", 3), ("s", 2), ("t", 4)], [("y", 1, 1), ("x", 2, 2), ("w", 5, 3)])
        self.assertEqual(beside(self.ONE, self.OTHER), both)
        self.assertEqual(beside(one=self.ONE, other=self.OTHER), both)
        self.assertEqual(beside(self.OTHER, self.ONE), ordered(both, ["w", "y", "x"]))
        self.assertNotEqual(beside(self.OTHER, self.ONE), both)
        self.assertEqual(show_hall(beside(self.ONE, self.OTHER)), show_hall(both))
        self.assertEqual((self.ONE.walkers(), self.OTHER.walkers()), (["y", "x"], ["w"]))

    def test_the_ones_turn_and_the_stones_by_their_names(self):
        stand, second = (1, ("b", "d"), ("x", "b")), (0, ("a",), ("w", "c"))
        self.assertEqual(beside_stand(self.ONE, stand, self.OTHER, second), (1, ("b", "d", "a"), ("x", "w", "b", "c")))
        self.assertEqual(beside_stand(one=self.OTHER, stand=second, other=self.ONE, second=stand),
                         (0, ("a", "b", "d"), ("x", "w", "b", "c")))
        self.assertIs(is_stand(beside(self.ONE, self.OTHER), beside_stand(self.ONE, stand, self.OTHER, second)), True)

    def pairs(self, many, seed):
        """Small cases and a second small hall beside each, with goals of their own."""
        dice = Random(seed)
        cases = [case for case in some_cases(many * 8, seed) if len(case.graph) <= 30]
        for one, other in list(zip(cases[::2], cases[1::2]))[:many]:
            second, turned = turned_about(other)
            both = beside(one.hall, second)
            stand = beside_stand(one.hall, one.stand, second, turned(other.stand))
            self.assertIs(is_stand(both, stand), True)
            yield dice, one, other, second, turned, both, stand

    def test_places_that_can_be_come_to_are_each_with_each(self):
        for _, one, other, second, turned, both, stand in self.pairs(25, 70):
            places = {beside_stand(one.hall, (0, *first[1:]), second, turned(last))
                      for first in graph_of(lambda stand: slow_moves(one.hall, stand), one.stand)
                      for last in graph_of(lambda stand: slow_moves(other.hall, stand), other.stand)}
            told = reach(Play(both, ()), stand, most=10 ** 6)
            self.assertEqual({(0, *spot[1:]) for spot in told}, places)
            self.assertEqual(len(told), len(places) * len(both.walkers()))

    def test_where_waits_cost_nothing_values_are_added(self):
        numbers = []
        for dice, one, other, second, turned, both, stand in self.pairs(40, 71):
            prices = (1, 2, 3, 0)
            spots = [sorted(graph_of(lambda stand: slow_moves(case.hall, stand), case.stand)) for case in (one, other)]
            goal, more = (some_goal(case.hall, dice.choice(some), dice) for case, some in zip((one, other), spots))
            values = [value(Play(one.hall, goal, prices=prices), one.stand),
                      value(Play(other.hall, more, prices=prices), other.stand)]
            more = tuple((wish[0], *[turned.names.get(part, part) for part in wish[1:]]) for wish in more)
            told = value(Play(both, goal + more, prices=prices), stand, most=10 ** 6)
            self.assertEqual(told, None if None in values else sum(values))
            numbers.append(told)
        self.assertGreater(numbers.count(None), 2)
        self.assertGreater(len([number for number in numbers if number]), 2)


def turned_about(case):
    """A case's hall under other names, and what carries its stands over; no name is like one of the dice's."""
    hall = case.hall
    names = {name: f"z{name}" for name in hall.rooms() + hall.doors() + hall.stones() + hall.walkers()}
    doors = [(names[name], names[one], names[other], way, [(names[row[0]], *row[1:]) for row in rows])
             for name in hall.doors() for one, other, way, rows in [hall.door(name)]]
    second = Hall([names[room] for room in hall.rooms()], doors, [(names[one], hall.heft(one)) for one in hall.stones()],
                  [(names[one], hall.heft(one), hall.hands(one)) for one in hall.walkers()])

    def turned(stand):
        return (stand[0], *[tuple(names[part] for part in parts) for parts in stand[1:]])

    turned.names = names
    return second, turned


class OrdersTest(unittest.TestCase):
    def test_the_same_places_and_values_in_other_orders_and_at_whosever_turn(self):
        numbers = []
        dice = Random(72)
        cases = [case for case in some_cases(300, 73) if len(case.hall.walkers()) > 1
                 and graph_of(lambda stand: slow_moves(case.hall, stand), case.stand, 300) is not None]
        for case in cases[:60]:
            prices = (1, 2, 3, 0)
            goal = some_goal(case.hall, some_stand(case.hall, dice), dice)
            plain = {spot[1:] for spot in reach(Play(case.hall, ()), case.stand, most=5000)}
            number = value(Play(case.hall, goal, prices=prices), case.stand, most=5000)
            rooms = dict(zip(case.hall.walkers(), case.stand[1]))
            for walkers in permutations(case.hall.walkers()):
                hall = ordered(case.hall, walkers)
                turn = dice.randrange(len(walkers))
                stand = (turn, tuple(rooms[walker] for walker in walkers), case.stand[2])
                self.assertIs(is_stand(hall, stand), True)
                places = {(tuple(dict(zip(walkers, some))[walker] for walker in case.hall.walkers()), stones)
                          for _, some, stones in reach(Play(hall, ()), stand, most=5000)}
                self.assertEqual(places, plain)
                self.assertEqual(value(Play(hall, goal, prices=prices), stand, most=5000), number)
            numbers.append(number)
        self.assertGreater(numbers.count(None), 3)
        self.assertGreater(len([number for number in numbers if number]), 3)

    def test_fewest_steps_hang_on_the_order(self):
        hall = Hall(["a", "b"], [("d", "a", "b", "both", [])], [], [("w", 1, 0), ("v", 1, 0)])
        goal = (("at", "w", "b"),)
        self.assertEqual(value(Play(hall, goal), (0, ("a", "a"), ())), 1)
        self.assertEqual(value(Play(ordered(hall, ["v", "w"]), goal), (0, ("a", "a"), ())), 2)

    def test_changes_of_the_dices_halls(self):
        for hall, _ in some_pairs(60, 74):
            for door in hall.doors():
                self.assertEqual(rowed(opened(hall, door), door, hall.door(door)[3]), hall)
                self.assertEqual(walled(hall, door).doors(), [name for name in hall.doors() if name != door])
            for name in hall.stones() + hall.walkers():
                changed = hefted(hall, name, 77)
                self.assertEqual([changed.heft(one) for one in hall.stones() + hall.walkers() if one != name],
                                 [hall.heft(one) for one in hall.stones() + hall.walkers() if one != name])
                self.assertEqual(changed.heft(name), 77)
                self.assertEqual(hefted(changed, name, hall.heft(name)), hall)


if __name__ == "__main__":
    unittest.main()
