"""Promises 34 and 35: doors walled and opened, and halls held beside one another."""

import unittest
from random import Random

from manyspots import corridors, full_hall
from remade import all_from, parts_of, remade, set_free, small_cases, without, worth
from samples import make_hall, slow_done, some_hall
from weighdoors.doors import by_door, parting
from weighdoors.errors import TooMany, Unlike
from weighdoors.halls import Hall

GOAL = (("at", "w", "c"),)


def stair_hall():
    """From a by b to c; e is held by what lies in a, f never stands open, g leads back."""
    return Hall(["a", "b", "c"], [
        ("d", "a", "b", "both", []), ("e", "b", "c", "on", [("a", 2, None)]),
        ("f", "a", "c", "on", [("b", 99, None)]), ("g", "c", "a", "on", [("c", 0, 5)])], [("s", 2)], [("w", 1, 1)])


class ByDoorTest(unittest.TestCase):
    def test_rows(self):
        stand = (0, ("b",), ("b",))
        # W fetches the stone: lift, go, lay, go, go.
        self.assertEqual(by_door(stair_hall(), stand, GOAL), [("d", None, 5), ("e", None, 1), ("f", 5, 2), ("g", 5, 5)])
        self.assertEqual(by_door(hall=stair_hall(), stand=stand, goal=GOAL, prices=(10, 1, 2, 0), most=50),
                         [("d", None, 33), ("e", None, 10), ("f", 33, 20), ("g", 33, 33)])

    def test_prices_of_nought(self):
        stand = (0, ("b",), ("b",))
        self.assertEqual(by_door(stair_hall(), stand, GOAL, prices=(0, 0, 0, 0)),
                         [("d", None, 0), ("e", None, 0), ("f", 0, 0), ("g", 0, 0)])
        self.assertEqual(by_door(stair_hall(), stand, GOAL, prices=(0, 0, 1, 0)),
                         [("d", None, 1), ("e", None, 0), ("f", 1, 0), ("g", 1, 1)])

    def test_the_default_prices(self):
        for case in small_cases(20, 90):
            self.assertEqual(by_door(case.hall, case.stand, case.goal),
                             by_door(case.hall, case.stand, case.goal, prices=(1, 1, 1, 1)))
        self.assertRaises(TypeError, by_door, stair_hall(), (0, ("b",), ("b",)), GOAL, (1, 1, 1, 1))

    def test_wishes_of_doors(self):
        # Walled a door is never open, opened it always is.
        stand = (0, ("b",), ("b",))
        self.assertEqual(by_door(stair_hall(), stand, (("open", "f"),)),
                         [("d", None, None), ("e", None, None), ("f", None, 0), ("g", None, None)])
        self.assertEqual(by_door(stair_hall(), stand, (("open", "g"),)),
                         [("d", 0, 0), ("e", 0, 0), ("f", 0, 0), ("g", None, 0)])
        self.assertEqual(by_door(stair_hall(), stand, (("open", "d"), ("open", "e"))),
                         [("d", None, 2), ("e", None, 0), ("f", 2, 2), ("g", 2, 2)])
        for _, shut, free in by_door(stair_hall(), stand, (("open", "nosuch"),)):
            self.assertEqual((shut, free), (None, None))

    def test_none_and_met_at_once(self):
        self.assertEqual(by_door(stair_hall(), (0, ("c",), ("b",)), GOAL), [(door, 0, 0) for door in "defg"])
        self.assertEqual(by_door(stair_hall(), (0, ("b",), ("c",)), GOAL),
                         [("d", None, None), ("e", None, 1), ("f", None, 2), ("g", None, None)])

    def test_a_hall_without_doors(self):
        hall = Hall(["a", "b"], [], [("s", 1)], [("w", 1, 1)])
        self.assertEqual(by_door(hall, (0, ("a",), ("a",)), (), most=2), [])
        self.assertEqual(by_door(hall, (0, ("a",), ("a",)), GOAL[:0] + (("at", "w", "b"),)), [])
        self.assertRaises(TooMany, by_door, hall, (0, ("a",), ("a",)), (), most=1)

    def test_beside_a_search_of_the_tests_own(self):
        kinds = {"never walled less": 0, "never opened more": 0, "alike": 0}
        for case in small_cases(250, 91, most=40):
            hall = case.hall
            if any(len(all_from(set_free(hall, [door]), case.stand)) > 400 for door in hall.doors()):
                continue
            expected = [(door, worth(without(hall, [door]), case.stand, case.goal, case.prices),
                         worth(set_free(hall, [door]), case.stand, case.goal, case.prices)) for door in hall.doors()]
            told = by_door(hall, case.stand, case.goal, prices=case.prices)
            self.assertEqual(told, expected)
            self.assertEqual((type(told), {type(row) for row in told} - {tuple}), (list, set()))
            own = worth(hall, case.stand, case.goal, case.prices)
            for _, shut, free in told:
                kinds["never walled less"] += shut != own
                kinds["never opened more"] += free != own
                kinds["alike"] += shut == free
                self.assertTrue(shut is None or own is not None and shut >= own)
                self.assertTrue(own is None or free is not None and free <= own)
        self.assertGreater(min(kinds.values()), 15, kinds)

    def test_told_lists_are_new_and_the_hall_stays(self):
        hall = stair_hall()
        told = by_door(hall, (0, ("b",), ("b",)), GOAL)
        by_door(hall, (0, ("b",), ("b",)), GOAL).clear()
        self.assertEqual(by_door(hall, (0, ("b",), ("b",)), GOAL), told)
        self.assertEqual(hall, stair_hall())


class TooManyByDoorTest(unittest.TestCase):
    def check(self, hall, stand, goal):
        many = max(len(all_from(some, stand)) for some in [hall] + [set_free(hall, [door]) for door in hall.doors()])
        told = by_door(hall, stand, goal, most=many)
        self.assertEqual(by_door(hall, stand, goal, most=many + 1), told)
        if many > 1:
            with self.assertRaises(TooMany) as caught:
                by_door(hall, stand, goal, most=many - 1)
            self.assertEqual(caught.exception.most, many - 1)
        return many

    def test_of_the_hall_or_with_some_one_door_opened(self):
        greater = 0
        for case in small_cases(120, 92):
            if all(len(all_from(set_free(case.hall, [door]), case.stand)) <= 500 for door in case.hall.doors()):
                greater += self.check(case.hall, case.stand, case.goal) > len(all_from(case.hall, case.stand))
        self.assertGreater(greater, 20)

    def test_whatever_else_is_so(self):
        # Only f opened lets w out of a; with both opened far more could be come to.
        hall = Hall(["a", "b", "c"], [("d", "b", "c", "both", [("a", 9, None)]), ("f", "a", "b", "on", [("c", 9, None)])],
                    [], [("w", 1, 1)])
        for goal in ((), (("at", "w", "b"),), (("open", "nosuch"),), (("open", "f"),)):
            self.assertEqual(self.check(hall, (0, ("a",), ()), goal), 2)

    def test_the_default_of_two_thousand(self):
        hall, stand = corridors(5, 5, 5, 4)
        self.assertEqual(by_door(hall, stand, (("at", "wd", "rdb"),))[-3:],
                         [("dda", None, 4), ("ddb", 4, 4), ("ddc", 4, 4)])
        # One more room behind a door that is shut: opened, too many can be come to.
        shut = remade(hall, rooms=hall.rooms() + ["more"],
                      doors=parts_of(hall)["doors"] + [("zz", "raa", "more", "both", [("more", 9, None)])])
        self.assertEqual(by_door(shut, stand, (), most=2400)[-1], ("zz", 0, 0))
        for most in (2000, 2399):
            with self.assertRaises(TooMany) as caught:
                by_door(shut, stand, (), most=most)
            self.assertEqual(caught.exception.most, most)
        self.assertRaises(TooMany, by_door, shut, stand, ())

    def test_a_greater_hall(self):
        hall, stand = corridors(10, 5, 5, 5)
        # The last door of wa's corridor is held by wb at the end of its own; behind all corridors many doors are shut.
        rows = {"dai": [("rbe", 1, None)]}
        doors = [(*door[:4], rows.get(door[0], ())) for door in parts_of(hall)["doors"]]
        more = [f"m{letter}" for letter in "abcdefghijklmno"]
        doors += [(f"s{one}{other}", more[at], more[at + 1], "both", [(room, 9999999, None) for room in more[:4]])
                  for at, one in enumerate("abcdefgh") for other in "abcde"[:6 - (at % 2)]][:60 - len(doors)]
        hall = remade(hall, rooms=hall.rooms() + more, doors=doors)
        goal = (("at", "wa", "raj"),)
        told = by_door(hall, stand, goal, most=5000)
        self.assertEqual([row[0] for row in told], hall.doors())
        values = {door: (shut, free) for door, shut, free in told}
        self.assertEqual(values["dai"], (None, 33))
        self.assertEqual(values["dbd"], (None, 33))
        self.assertEqual(values["dcd"], (33, 33))
        self.assertEqual({row[1:] for row in told if row[0][0] == "s"}, {(33, 33)})
        self.assertRaises(TooMany, by_door, hall, stand, goal, most=4999)


class PartingTest(unittest.TestCase):
    """Rooms a, b, c in a row, in which w goes; v is by itself in x."""

    DOORS = [("d", "a", "b", "both", []), ("e", "b", "c", "both", [("a", 1, None)])]

    def hall(self, doors=None, stones=(("s", 2),), walkers=(("w", 1, 1), ("v", 1, 0))):
        return Hall(["a", "b", "c", "x"], self.DOORS if doors is None else doors, stones, walkers)

    STAND = (0, ("a", "x"), ("a",))

    def check(self, one, other, stand, way):
        self.assertEqual(parting(one, other, stand), way)
        self.assertEqual(parting(one=one, other=other, stand=stand, most=500), way)

    def test_nothing_parts_them(self):
        hall = self.hall()
        self.check(hall, self.hall(), self.STAND, None)
        # Hefts, rows and hands that show nowhere.
        self.check(hall, self.hall(stones=[("s", 7)], walkers=[("w", 0, 1), ("v", 1, 0)]), self.STAND, None)
        self.check(hall, self.hall(walkers=[("w", 1, 9), ("v", 1, 0)]), self.STAND, None)
        self.check(hall, self.hall(self.DOORS[:1] + [("e", "c", "b", "both", [("a", 0, None)])]), self.STAND, None)

    def test_rows(self):
        way = (("go", "d"), ("wait",), ("go", "e"))
        self.check(self.hall(), self.hall(self.DOORS[:1] + [("e", "b", "c", "both", [("a", 4, None)])]), self.STAND, way)
        self.check(self.hall(), self.hall(self.DOORS[:1] + [("e", "b", "c", "both", [("a", 1, 1)])]), self.STAND, way)
        # The other hall lets more: there is no such way.
        self.check(self.hall(self.DOORS[:1] + [("e", "b", "c", "both", [("a", 9, None)])]), self.hall(), self.STAND, None)

    def test_a_door_more_and_less(self):
        more = self.hall(self.DOORS + [("f", "a", "c", "both", [])])
        self.check(self.hall(), more, self.STAND, None)
        self.check(more, self.hall(), self.STAND, (("go", "f"),))
        self.check(self.hall(), self.hall(self.DOORS[:1]), self.STAND, (("go", "d"), ("wait",), ("go", "e")))
        self.check(self.hall(self.DOORS[:1]), self.hall(), self.STAND, None)

    def test_elsewhere_and_the_other_way_about(self):
        self.check(self.hall([("d", "a", "b", "both", [])]), self.hall([("d", "a", "c", "both", [])]), self.STAND,
                   (("go", "d"),))
        on, about = self.hall([("d", "a", "b", "on", [])]), self.hall([("d", "b", "a", "on", [])])
        self.check(on, about, self.STAND, (("go", "d"),))
        self.check(about, on, self.STAND, None)
        # Both ways as against on alone: the way back parts them.
        self.check(self.hall([("d", "a", "b", "both", [])]), on, self.STAND, (("go", "d"), ("wait",), ("go", "d")))
        self.check(on, self.hall([("d", "a", "b", "both", [])]), self.STAND, None)

    def test_hefts(self):
        doors = self.DOORS[:1] + [("e", "b", "c", "both", [("a", 2, None), ("x", 1, None)])]
        way = (("go", "d"), ("wait",), ("go", "e"))
        self.check(self.hall(doors), self.hall(doors, stones=[("s", 1)]), self.STAND, way)
        self.check(self.hall(doors), self.hall(doors, walkers=[("w", 1, 1), ("v", 0, 0)]), self.STAND, way)
        self.check(self.hall(doors, stones=[("s", 1)]), self.hall(doors), self.STAND, None)

    def test_hands(self):
        stones, places = [("s", 2), ("t", 2)], ("a", "a")
        one = self.hall(stones=stones, walkers=[("w", 1, 2), ("v", 1, 0)])
        other = self.hall(stones=stones, walkers=[("w", 1, 1), ("v", 1, 0)])
        told = parting(one, other, (0, ("a", "x"), places))
        self.assertEqual(len(told), 3)
        self.assertEqual({told[0], told[2]}, {("lift", "s"), ("lift", "t")})
        self.assertEqual(told[1], ("wait",))
        self.check(other, one, (0, ("a", "x"), places), None)
        self.check(other, one, (0, ("a", "x"), ("w", "a")), None)
        none = self.hall(stones=stones, walkers=[("w", 1, 0), ("v", 1, 0)])
        self.assertEqual([deed[0] for deed in parting(other, none, (0, ("a", "x"), places))], ["lift"])

    def test_fewest_deeds_where_more_lead_there_too(self):
        # From a straight to c, and by b to c; only from c on the halls are unlike.
        doors = [("d", "a", "b", "on", []), ("e", "b", "c", "on", []), ("f", "a", "c", "on", []), ("g", "b", "a", "on", [])]
        one = Hall("abcx", doors + [("h", "c", "x", "on", [])], [], [("w", 1, 0)])
        self.check(one, Hall("abcx", doors, [], [("w", 1, 0)]), (0, ("a",), ()), (("go", "f"), ("go", "h")))
        self.check(one, Hall("abcx", doors, [], [("w", 1, 0)]), (0, ("b",), ()), (("go", "e"), ("go", "h")))

    def test_beside_the_slow_model(self):
        dice = Random(93)
        lengths = []
        for case in small_cases(250, 94):
            one = case.hall
            other = self.like(one, dice)
            rooms = dict(zip(one.walkers(), case.stand[1]))
            stand = (case.stand[0], tuple(rooms.values()), case.stand[2])
            if any(stand[2].count(walker) > other.hands(walker) for walker in other.walkers()):
                continue
            told = parting(one, other, stand)
            self.assertEqual(None if told is None else len(told), self.slow_length(one, other, stand))
            lengths.append(None if told is None else len(told))
            if told is not None:
                self.assertIs(type(told), tuple)
                for at, deed in enumerate(told):
                    behind = slow_done(one, stand, deed)
                    self.assertNotIsInstance(behind, str)
                    there = slow_done(other, stand, deed) if deed[0] != "go" or deed[1] in other.doors() else "door"
                    self.assertIs(there == behind, at < len(told) - 1)
                    stand = behind
        self.assertGreater(lengths.count(None), 20)
        for length in (1, 2, 3):
            self.assertGreater(lengths.count(length), 3)

    def like(self, one, dice):
        """A hall with the same rooms, stones and walkers, something else of which may be unlike."""
        parts = parts_of(one)
        for _ in range(dice.choice([0, 1, 1, 2])):
            sort = dice.choice(["doors", "rows", "stones", "walkers"])
            if sort == "doors" and len(one) > 1:
                drawn = {door[0]: door for door in parts_of(some_hall(dice))["doors"]
                         if {door[1], door[2], *[row[0] for row in door[4]]} <= set(one.rooms())}
                name = dice.choice(["da", "db", "dc", "dd"])
                parts["doors"] = [door for door in parts["doors"] if door[0] != name] + (
                    [drawn[name]] if name in drawn else [])
            elif sort == "rows" and parts["doors"]:
                at = dice.randrange(len(parts["doors"]))
                door = parts["doors"][at]
                rows = [(room, dice.randint(0, least), None) for room, least, _ in door[4]]
                parts["doors"][at] = (*door[:4], dice.choice([rows, [(one.rooms()[0], dice.randint(0, 4), None)]]))
            elif sort == "stones":
                parts["stones"] = [(name, dice.choice([heft, dice.randint(0, 4)])) for name, heft in parts["stones"]]
            elif sort == "walkers":
                parts["walkers"] = [(name, dice.choice([heft, dice.randint(0, 4)]), dice.choice([hands, hands, 0, 1, 2]))
                                    for name, heft, hands in parts["walkers"]]
        return Hall(**parts)

    def slow_length(self, one, other, stand):
        """How many deeds the shortest such way has, by layers of stands to which both lead alike."""
        layer, gone, length = {stand}, set(), 0
        while layer:
            length += 1
            gone |= layer
            there = {spot: {deed: behind for deed, _, behind in moves} for spot in layer
                     for moves in [all_from(other, spot)[spot]]}
            here = {spot: all_from(one, spot)[spot] for spot in layer}
            if any(there[spot].get(deed) != behind for spot in layer for deed, _, behind in here[spot]):
                return length
            layer = {behind for spot in layer for _, _, behind in here[spot]} - gone
        return None

    def test_great_halls(self):
        hall, stand, _ = full_hall()
        self.assertIsNone(parting(hall, remade(hall), stand, most=5000))
        # The gate is let by behind ann's stone alone, the others' turns between.
        told = parting(hall, without(hall, ["gate"]), stand, most=5000)
        self.assertEqual((len(told), told[-1]), (50, ("go", "gate")))


class UnlikeTest(unittest.TestCase):
    def test_a_room_a_stone_a_walker_or_their_order(self):
        hall = make_hall()
        stand = (1, ("cave", "yard"), ("bob", "cave"))
        parts = parts_of(hall)
        for part in (
                {"rooms": parts["rooms"] + ["attic"]}, {"stones": parts["stones"][:1]},
                {"stones": parts["stones"] + [("bowl", 4)]}, {"stones": [("axe", 3), ("bowl", 4)]},
                {"walkers": parts["walkers"][:1]}, {"walkers": parts["walkers"] + [("cyd", 1, 1)]},
                {"walkers": parts["walkers"][::-1]}, {"walkers": [("bob", 5, 1), ("eve", 7, 2)]}):
            for one, other in ((hall, remade(hall, **part)), (remade(hall, **part), hall)):
                for most in (1, 2000):
                    self.assertRaises(Unlike, parting, one, other, stand, most=most)
        self.assertIsNone(parting(hall, remade(hall, stones=parts["stones"][::-1], rooms=parts["rooms"][::-1]), stand))


class TooManyPartingTest(unittest.TestCase):
    def test_of_the_one_alone(self):
        one, stand = corridors(3, 4)
        other = remade(one, doors=[])
        for hall, many in ((one, 24), (other, 2)):
            for second in (one, other):
                told = parting(hall, second, stand, most=many)
                self.assertEqual(told is None, hall is second or hall is other)
                with self.assertRaises(TooMany) as caught:
                    parting(hall, second, stand, most=many - 1)
                self.assertEqual(caught.exception.most, many - 1)

    def test_the_default_of_two_thousand(self):
        hall, stand = corridors(5, 5, 5, 4)
        self.assertIsNone(parting(hall, hall, stand))
        hall, stand = corridors(7, 4, 4, 3, 1, 1)
        with self.assertRaises(TooMany) as caught:
            parting(hall, remade(hall, doors=[]), stand)
        self.assertEqual(caught.exception.most, 2000)
        self.assertRaises(TypeError, parting, hall, hall, stand, 5000)


if __name__ == "__main__":
    unittest.main()
