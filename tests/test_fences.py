"""Promises 30 and 31: fences, the rounds by which they are come to, and bars."""

import unittest
from itertools import combinations, product
from random import Random

from manyspots import corridors, full_hall
from samples import ANYTHING, STAND, make_hall, some_pairs
from slowplays import graph_of, slow_moves, some_cases, some_goal
from weighdoors.fences import bar, fence, is_fence, rounds
from weighdoors.halls import Hall
from weighdoors.plays import Play
from weighdoors.values import value


def own_rooms(hall, stand):
    """Where each walker and stone of a stand is, a carried one where its walker is."""
    room_of = dict(zip(hall.walkers(), stand[1]))
    return room_of | {stone: room_of.get(place, place) for stone, place in zip(hall.stones(), stand[2])}


def lets_by(hall, some, door, walker):
    """Whether a door may let a walker by, by sets of rooms."""
    return all(sum(hall.heft(name) for name in some if name != walker and room in some[name]) >= least
               for room, least, _ in hall.door(door)[3])


def next_rooms(hall, some, walker):
    """The rooms behind the doors that may let a walker by, by sets of rooms."""
    found = set()
    for door in hall.doors():
        one, other, way, _ = hall.door(door)
        if lets_by(hall, some, door, walker):
            found |= {other} if one in some[walker] else set()
            found |= {one} if way == "both" and other in some[walker] else set()
    return found


def slow_closed(hall, stand, some):
    """Whether sets of rooms of each walker and stone are closed at a stand."""
    if any(room not in some[name] for name, room in own_rooms(hall, stand).items()):
        return False
    if any(not next_rooms(hall, some, walker) <= some[walker] for walker in hall.walkers()):
        return False
    return all(some[walker] <= some[stone] for stone in hall.stones() for walker in hall.walkers()
               if hall.hands(walker) and some[walker] & some[stone])


def slow_rounds(hall, stand):
    """The rounds, by sets of rooms."""
    told = [{name: {room} for name, room in own_rooms(hall, stand).items()}]
    while not slow_closed(hall, stand, told[-1]):
        ahead = told[-1]
        wider = {walker: ahead[walker] | next_rooms(hall, ahead, walker) for walker in hall.walkers()}
        for stone in hall.stones():
            wider[stone] = set(ahead[stone]).union(
                *[wider[walker] for walker in hall.walkers() if hall.hands(walker) and wider[walker] & ahead[stone]])
        told.append(wider)
    return told


def listed(some):
    """Sets of rooms as the lists of a fence."""
    return {name: sorted(rooms) for name, rooms in some.items()}


class RoundsTest(unittest.TestCase):
    def test_what_one_walker_gains_counts_for_no_other_before_the_next_round(self):
        # V weighs the floor of b that opens the door from c, and comes to b in the first round.
        hall = Hall(["a", "b", "c", "d"], [("da", "a", "b", "on", []), ("db", "c", "d", "on", [("b", 3, None)])], [],
                    [("v", 3, 0), ("w", 1, 0)])
        told = [{"v": ["a"], "w": ["c"]}, {"v": ["a", "b"], "w": ["c"]}, {"v": ["a", "b"], "w": ["c", "d"]}]
        self.assertEqual(rounds(hall, (0, ("a", "c"), ())), told)
        self.assertEqual(rounds(hall=hall, stand=(1, ("a", "c"), ())), told)
        # In the other order of turns, too.
        turned = Hall(hall.rooms(), [("da", "a", "b", "on", []), ("db", "c", "d", "on", [("b", 3, None)])], [],
                      [("w", 1, 0), ("v", 3, 0)])
        self.assertEqual(rounds(turned, (0, ("c", "a"), ())), told)

    def test_stones_by_new_rooms_of_walkers_that_share_a_room_ahead_of_the_round(self):
        # The walker comes to the stone's room by the first round, and with it wherever it may be by then.
        hall = Hall(["a", "b", "c"], [("da", "a", "b", "both", []), ("db", "b", "c", "both", [])], [("s", 1)],
                    [("w", 1, 1)])
        self.assertEqual(rounds(hall, (0, ("a",), ("b",))), [
            {"w": ["a"], "s": ["b"]}, {"w": ["a", "b"], "s": ["a", "b"]},
            {"w": ["a", "b", "c"], "s": ["a", "b", "c"]}])
        # A stone two rooms off waits for the second round.
        self.assertEqual(rounds(hall, (0, ("a",), ("c",))), [
            {"w": ["a"], "s": ["c"]}, {"w": ["a", "b"], "s": ["c"]}, {"w": ["a", "b", "c"], "s": ["a", "b", "c"]}])
        # A stone that a round brings into a room hands it on to nobody before the next round.
        two = Hall(["a", "b", "c"], [("da", "a", "b", "on", [])], [("s", 1)], [("v", 1, 1), ("w", 1, 1)])
        self.assertEqual(rounds(two, (0, ("a", "b"), ("a",))), [
            {"v": ["a"], "w": ["b"], "s": ["a"]}, {"v": ["a", "b"], "w": ["b"], "s": ["a", "b"]}])

    def test_a_walker_that_shares_no_room_with_the_stones_own_ahead(self):
        # U brings the stone to b in round one; w in b moves on to c, and shares b with it only by that round.
        hall = Hall(["a", "b", "c"], [("da", "a", "b", "on", []), ("db", "b", "c", "on", [("a", 1, None)])],
                    [("s", 0)], [("u", 1, 1), ("w", 1, 1)])
        self.assertEqual(rounds(hall, (0, ("a", "b"), ("a",))), [
            {"u": ["a"], "w": ["b"], "s": ["a"]}, {"u": ["a", "b"], "w": ["b", "c"], "s": ["a", "b"]},
            {"u": ["a", "b"], "w": ["b", "c"], "s": ["a", "b", "c"]}])

    def test_doors_that_go_on_alone(self):
        hall = Hall(["a", "b"], [("d", "a", "b", "on", [])], [], [("w", 1, 0)])
        self.assertEqual(fence(hall, (0, ("a",), ())), {"w": ["a", "b"]})
        self.assertEqual(fence(hall, (0, ("b",), ())), {"w": ["b"]})

    def test_most_is_left_aside_and_all_others_hefts_are_added(self):
        def least(rows, walkers=(("w", 9, 1), ("v", 2, 0)), stones=(("s", 3),)):
            hall = Hall(["a", "b"], [("d", "a", "b", "on", rows)], stones, walkers)
            return fence(hall, (0, ("a", "a"), ("a",)))["w"]

        self.assertEqual(least([("a", 0, 0)]), ["a", "b"])
        self.assertEqual(least([("a", 5, 5)]), ["a", "b"])
        self.assertEqual(least([("a", 6, None)]), ["a"])
        # Its own heft doesn't count, a stone that it carries does.
        hall = Hall(["a", "b"], [("d", "a", "b", "on", [("a", 3, None)])], [("s", 3)], [("w", 9, 1)])
        self.assertEqual(fence(hall, (0, ("a",), ("w",))), {"w": ["a", "b"], "s": ["a", "b"]})
        hall = Hall(["a", "b"], [("d", "a", "b", "on", [("a", 4, None)])], [("s", 3)], [("w", 9, 1)])
        self.assertEqual(fence(hall, (0, ("a",), ("w",))), {"w": ["a"], "s": ["a"]})
        # Each row is to be borne.
        self.assertEqual(least([("a", 5, None), ("b", 1, None)]), ["a"])

    def test_a_walker_without_hands(self):
        hall = Hall(["a", "b"], [("d", "a", "b", "both", [])], [("s", 3)], [("w", 1, 0)])
        self.assertEqual(fence(hall, (0, ("a",), ("a",))), {"w": ["a", "b"], "s": ["a"]})

    def test_a_carried_stone_is_where_its_walker_is(self):
        told = rounds(make_hall(), STAND)[0]
        self.assertEqual(told, {"ann": ["yard"], "bob": ["cave"], "axe": ["cave"], "ball": ["cave"]})

    def test_closed_at_once(self):
        hall = Hall(["a", "b"], [], [("s", 3)], [("w", 1, 1)])
        self.assertEqual(rounds(hall, (0, ("a",), ("b",))), [{"w": ["a"], "s": ["b"]}])
        self.assertEqual(fence(hall=hall, stand=(0, ("a",), ("b",))), {"w": ["a"], "s": ["b"]})

    def test_beside_the_slow_rounds(self):
        lengths = []
        for hall, stand in some_pairs(500, 60):
            told = rounds(hall, stand)
            lengths.append(len(told))
            self.assertEqual(told, [listed(some) for some in slow_rounds(hall, stand)])
            self.assertEqual(fence(hall, stand), told[-1])
            self.assertEqual([is_fence(hall, stand, some) for some in told], [False] * (len(told) - 1) + [True])
        self.assertGreater(lengths.count(3), 20)

    def test_behind_so_many_deeds_all_is_within_the_round(self):
        for case in some_cases(100, 61):
            told = rounds(case.hall, case.stand)
            layer = {case.stand}
            for number in range(8):
                some = told[min(number, len(told) - 1)]
                for stand in layer:
                    self.assertTrue(all(room in some[name] for name, room in own_rooms(case.hall, stand).items()))
                layer = {behind for stand in layer for _, _, behind in slow_moves(case.hall, stand)}

    def test_the_least_one(self):
        many = 0
        for hall, stand in some_pairs(200, 62):
            names = hall.walkers() + hall.stones()
            lots = [set(lot) for size in range(1, len(hall) + 1) for lot in combinations(hall.rooms(), size)]
            if len(lots) ** len(names) > 2500:
                continue
            closed = [dict(zip(names, some)) for some in product(lots, repeat=len(names))
                      if slow_closed(hall, stand, dict(zip(names, some)))]
            least = {name: set.intersection(*[some[name] for some in closed]) for name in names}
            self.assertEqual(fence(hall, stand), listed(least))
            many += 1
        self.assertGreater(many, 50)

    def test_told_dicts_and_lists_are_new(self):
        hall = make_hall()
        told = rounds(hall, STAND)
        self.assertEqual((type(told), {type(some) for some in told}), (list, {dict}))
        self.assertEqual({type(rooms) for some in told for rooms in some.values()}, {list})
        rooms = [rooms for some in told for rooms in some.values()]
        self.assertEqual(len({id(one) for one in rooms}), len(rooms))
        for one in rooms:
            one.clear()
        self.assertNotEqual(rounds(hall, STAND), told)
        fence(hall, STAND).clear()
        self.assertEqual(fence(hall, STAND), rounds(hall, STAND)[-1])
        self.assertEqual(hall, make_hall())

    def test_a_hall_too_great_to_be_searched(self):
        hall, stand, goal = full_hall()
        told = rounds(hall, stand)
        self.assertEqual(told, [listed(some) for some in slow_rounds(hall, stand)])
        self.assertIs(is_fence(hall, stand, told[-1]), True)
        self.assertEqual(told[-1]["bob"], ["rba", "rbb", "rbc", "rbd", "rbe"])
        # Ann comes to the weight by round four, and by it may be wherever it may be; bob's door is open by then.
        self.assertEqual(bar(hall, stand, goal), 5)
        hall, stand = corridors(7, 7, 7, 7, 7, 5)
        self.assertEqual(bar(hall, stand, (("at", "wf", "rfe"), ("at", "wa", "rag"))), 6)

    def test_forty_rooms_open_to_all(self):
        rooms = [f"r{letter}{other}" for letter in "abcd" for other in "abcdefghij"]
        doors = [(f"d{letter}{other}", rooms[at], rooms[(at * 7 + 1) % 40], "both", [(rooms[at % 40], 3, 5)])
                 for at, (letter, other) in enumerate(product("abcd", "abcdefghij"))]
        doors += [(f"e{letter}{other}", rooms[at], rooms[at + 1], "on", [])
                  for at, (letter, other) in enumerate(product("ab", "abcdefghij"))]
        hall = Hall(rooms, [door for door in doors if door[1] != door[2]], [(f"s{one}", 1) for one in "abcdefghijkl"],
                    [(f"w{one}", 2, 2) for one in "abcdef"])
        stand = (3, (rooms[0],) * 3 + (rooms[20],) * 3, ("wa", "wa", "wb") + (rooms[3],) * 5 + (rooms[39],) * 4)
        told = rounds(hall, stand)
        self.assertGreater(len(told), 5)
        self.assertEqual(told, [listed(some) for some in slow_rounds(hall, stand)])


class IsFenceTest(unittest.TestCase):
    # W may go to b and back, and carries s there; c is walled off.
    HALL = Hall(["a", "b", "c"], [("d", "a", "b", "both", []), ("e", "b", "c", "on", [("c", 1, None)])], [("s", 3)],
                [("w", 1, 1)])
    STAND = (0, ("a",), ("b",))
    LEAST = {"w": ["a", "b"], "s": ["a", "b"]}

    def check(self, thing, is_closed):
        self.assertIs(is_fence(self.HALL, self.STAND, thing), is_closed, thing)

    def test_the_least_and_greater_ones(self):
        self.assertEqual(fence(self.HALL, self.STAND), self.LEAST)
        self.check(self.LEAST, True)
        self.check({"s": ["a", "b"], "w": ["a", "b"]}, True)
        self.check({"w": ["a", "b", "c"], "s": ["a", "b", "c"]}, True)
        self.assertIs(is_fence(hall=self.HALL, stand=self.STAND, thing=self.LEAST), True)

    def test_not_closed_by_one_room(self):
        # Where the stone may be in c the door to c may let by.
        for some in ({"w": ["a"], "s": ["a", "b"]}, {"w": ["b"], "s": ["a", "b"]}, {"w": ["a", "b"], "s": ["b"]},
                     {"w": ["a", "b"], "s": ["a"]}, {"w": ["a", "b"], "s": ["a", "b", "c"]},
                     {"w": ["a", "b", "c"], "s": ["a", "b"]}, {"w": ["a"], "s": ["b"]},
                     {"w": ["a", "b"], "s": []}, {"w": [], "s": ["a", "b"]}):
            self.check(some, False)

    def test_forms(self):
        for some in ({"w": ["a", "b"]}, {"s": ["a", "b"]}, {}, {**self.LEAST, "v": ["a"]}, {**self.LEAST, "a": ["a"]},
                     {**self.LEAST, "d": []}, {"w": ["a", "b"], "t": ["a", "b"]}, {**self.LEAST, None: ["a"]},
                     {"w": ["b", "a"], "s": ["a", "b"]}, {"w": ["a", "b"], "s": ["b", "a"]},
                     {"w": ["a", "a", "b"], "s": ["a", "b"]}, {"w": ["a", "b", "b"], "s": ["a", "b"]},
                     {"w": ("a", "b"), "s": ["a", "b"]}, {"w": ["a", "b"], "s": ("a", "b")},
                     {"w": ["a", "b", "d"], "s": ["a", "b"]}, {"w": ["a", "b", "w"], "s": ["a", "b"]},
                     {"w": ["a", "b", None], "s": ["a", "b"]}, {"w": ["a", "b", []], "s": ["a", "b"]},
                     {"w": [1, "a", "b"], "s": ["a", "b"]}, {"w": "ab", "s": "ab"}, {"w": None, "s": ["a", "b"]},
                     {"w": {"a": 1, "b": 1}, "s": ["a", "b"]}, {"w": [["a", "b"]], "s": ["a", "b"]},
                     [("w", ["a", "b"]), ("s", ["a", "b"])], (("w", ["a", "b"]), ("s", ["a", "b"]))):
            self.check(some, False)

    def test_anything(self):
        for thing in ANYTHING:
            self.check(thing, False)
            self.check({"w": thing, "s": ["a", "b"]}, False)
            self.check({"w": ["a", "b"], "s": thing}, False)
            self.check({"w": ["a", "b", thing], "s": ["a", "b"]}, False)
            self.check([thing, self.LEAST], False)

    def test_beside_the_slow_closing(self):
        dice = Random(63)
        told = []
        for hall, stand in some_pairs(600, 64):
            some = {name: set(rooms) for name, rooms in fence(hall, stand).items()}
            for name in some:
                some[name] |= {room for room in hall.rooms() if dice.random() < 0.2}
                if dice.random() < 0.05:
                    some[name].discard(dice.choice(hall.rooms()))
            told.append(is_fence(hall, stand, listed(some)))
            self.assertIs(told[-1], slow_closed(hall, stand, some))
        self.assertGreater(told.count(True), 100)
        self.assertGreater(told.count(False), 100)

    def test_what_is_handed_in_stays_as_it_was(self):
        some = {"w": ["a", "b"], "s": ["a", "b"]}
        is_fence(self.HALL, self.STAND, some)
        self.assertEqual(some, self.LEAST)


class BarTest(unittest.TestCase):
    # W and its stone come to b by round one, to c by round two; v has no hand and no door lets it go.
    HALL = Hall(["a", "b", "c", "z"], [("d", "a", "b", "on", []), ("e", "b", "c", "on", []),
                                       ("f", "a", "z", "on", [("c", 4, None), ("z", 1, 2)]),
                                       ("g", "a", "z", "on", [("b", 3, 3)]), ("h", "z", "c", "on", [("c", 5, None)])],
                [("s", 3)], [("w", 1, 1), ("v", 1, 0)])
    STAND = (0, ("a", "z"), ("a",))

    def check(self, wish, number):
        told = bar(self.HALL, self.STAND, (wish,))
        self.assertEqual((told, type(told)), (number, type(number)), wish)

    def test_at_and_lies(self):
        for room, number in (("a", 0), ("b", 1), ("c", 2), ("z", 2)):
            self.check(("at", "w", room), number)
            self.check(("lies", "s", room), number)
        self.check(("at", "v", "z"), 0)
        self.check(("at", "v", "a"), None)

    def test_held(self):
        self.check(("held", "s", "w"), 0)
        # V is in z, whither the stone may come, but it has no hand.
        self.check(("held", "s", "v"), None)
        hall = Hall(["a", "b"], [("d", "a", "b", "on", [])], [("s", 3)], [("w", 1, 1)])
        self.assertEqual(bar(hall, (0, ("a",), ("b",)), (("held", "s", "w"),)), 1)
        self.assertIsNone(bar(hall, (0, ("b",), ("a",)), (("held", "s", "w"),)))
        self.assertEqual(bar(hall, (0, ("b",), ("w",)), (("held", "s", "w"),)), 0)

    def test_open(self):
        # All that may be there counts, the most is left aside.
        for door, number in (("d", 0), ("e", 0), ("f", 2), ("g", 1), ("h", None), ("nosuch", None), ("a", None),
                             ("s", None), ("w", None)):
            self.check(("open", door), number)

    def test_bears(self):
        for room, least, number in (("a", 0, 0), ("a", 4, 0), ("a", 5, None), ("b", 0, 0), ("b", 1, 1), ("b", 4, 1),
                                    ("b", 5, None), ("c", 4, 2), ("z", 1, 0), ("z", 5, 2), ("z", 6, None)):
            self.check(("bears", room, least), number)

    def test_all_wishes_at_once(self):
        self.assertEqual(bar(self.HALL, self.STAND, ()), 0)
        self.assertEqual(bar(self.HALL, self.STAND, (("at", "w", "a"), ("lies", "s", "a"), ("held", "s", "w"))), 0)
        self.assertEqual(bar(hall=self.HALL, stand=self.STAND, goal=(("at", "w", "b"), ("bears", "c", 4))), 2)
        self.assertEqual(bar(self.HALL, self.STAND, (("at", "w", "b"), ("at", "w", "a"))), 1)
        self.assertIsNone(bar(self.HALL, self.STAND, (("at", "w", "b"), ("held", "s", "v"))))

    def test_no_way_has_fewer_deeds(self):
        dice = Random(65)
        told = []
        for case in some_cases(400, 66):
            stands = sorted(graph_of(lambda stand: slow_moves(case.hall, stand), case.stand))
            goal = some_goal(case.hall, dice.choice(stands), dice)
            number = bar(case.hall, case.stand, goal)
            steps = value(Play(case.hall, goal), case.stand, most=len(stands))
            if number is None:
                self.assertIsNone(steps)
            elif steps is not None:
                self.assertLessEqual(number, steps)
            told.append(number)
        for number in (None, 0, 1, 2):
            self.assertGreater(told.count(number), 3)


if __name__ == "__main__":
    unittest.main()
