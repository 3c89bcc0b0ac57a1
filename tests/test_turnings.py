"""Promises 38 and 39: other names, and turnings."""

import unittest
from random import Random

from manyspots import full_hall
from remade import all_from, parts_of, remade, renamed, renamed_stand, slow_turnings, small_cases, star_hall, twos
from samples import ANYTHING, STAND, TEXT, great_hall, make_hall, some_hall, some_pairs
from weighdoors.counting import count_ways
from weighdoors.errors import NoTurning, TooMany
from weighdoors.fences import fence
from weighdoors.goals import need_goal
from weighdoors.halls import Hall
from weighdoors.halltexts import read_hall, show_hall
from weighdoors.lots import lots
from weighdoors.papers import bars, forces
from weighdoors.plays import Play
from weighdoors.reaching import reach
from weighdoors.stands import is_stand, open_doors
from weighdoors.turnings import is_turning, turned, turned_goal, turned_stand, turned_way, turnings
from weighdoors.values import barring, cheapest, forcing, value
from weighdoors.ways import played


class TurnedTest(unittest.TestCase):
    def check(self, names, text):
        kept = dict(names)
        told = turned(make_hall(), names)
        self.assertEqual(show_hall(told), text)
        self.assertEqual(told, read_hall(text))
        self.assertIs(type(told), Hall)
        self.assertEqual(names, kept)

    def test_no_names_at_all(self):
        hall = make_hall()
        self.check({}, TEXT)
        self.assertIsNot(turned(hall, {}), hall)
        self.assertEqual(turned(hall=hall, names={"cave": "cave"}), hall)
        self.assertEqual(turned_stand(hall, {}, STAND), STAND)
        self.assertEqual(turned_way({}, [("go", "gate"), ("wait",)]), (("go", "gate"), ("wait",)))
        self.assertEqual(turned_goal({}, (("open", "gate"),)), (("open", "gate"),))

    def test_fresh_names(self):
        self.check({"cave": "zoo", "ball": "aaa", "bob": "zed", "gate": "z"}, """room tower
room yard
room zoo
door arch tower yard both
door slide tower zoo on
door trap zoo yard on tower 4 4
door z yard zoo both yard 0 12 zoo 3 -
stone aaa 4
stone axe 3
walker zed 5 1
walker ann 7 2""")

    def test_names_exchanged_within_a_sort(self):
        self.check({"cave": "yard", "yard": "cave"}, TEXT.replace("tower yard both", "cave tower both")
                   .replace("cave 3 - yard 0 12", "cave 0 12 yard 3 -").replace("slide tower cave", "slide tower yard")
                   .replace("trap cave yard", "trap yard cave"))
        self.check({"axe": "ball", "ball": "axe"}, TEXT.replace("axe 3", "axe 4").replace("ball 4", "ball 3"))
        self.check({"ann": "bob", "bob": "ann"}, TEXT.replace("bob 5 1", "ann 5 1").replace("ann 7 2", "bob 7 2"))
        self.check({"slide": "trap", "trap": "slide"}, TEXT.replace("trap", "x").replace(
            "door slide tower cave on", "door slide cave yard on tower 4 4").replace(
            "door x cave yard on tower 4 4", "door trap tower cave on"))

    def test_names_exchanged_across_sorts(self):
        self.check({"cave": "axe", "axe": "cave", "gate": "ann", "ann": "tower", "tower": "gate"}, """room axe
room gate
room yard
door ann axe yard both axe 3 - yard 0 12
door arch gate yard both
door slide gate axe on
door trap axe yard on gate 4 4
stone ball 4
stone cave 3
walker bob 5 1
walker tower 7 2""")

    def test_of_the_dices_halls_there_and_back(self):
        dice = Random(110)
        for hall, stand in some_pairs(150, 111):
            names = self.names(hall, dice)
            about = {other: name for name, other in names.items()}
            told = turned(hall, names)
            self.assertEqual(told, renamed(hall, names))
            self.assertEqual(turned(told, about), hall)
            there = turned_stand(hall, names, stand)
            self.assertEqual(there, renamed_stand(hall, names, stand))
            self.assertIs(is_stand(told, there), True)
            self.assertEqual(turned_stand(told, about, there), stand)
            self.assertEqual([names.get(door, door) for door in open_doors(hall, stand)],
                             sorted(open_doors(told, there), key=lambda door: about.get(door, door)))

    def names(self, hall, dice):
        """Other names for a hall: some of its own changed about, some fresh ones."""
        own = hall.rooms() + hall.doors() + hall.stones() + hall.walkers()
        some = dice.sample(own, dice.randint(0, len(own)))
        fresh = [f"z{letter}" for letter in "abcdefghijklmnop"]
        others = dice.choice([list(some), dice.sample(some + fresh, len(some))])
        dice.shuffle(others)
        return dict(zip(some, others))


class CarriedOverTest(unittest.TestCase):
    def test_stands(self):
        # Axe becomes the later one: the stones' places change their order.
        self.assertEqual(turned_stand(make_hall(), {"axe": "cup", "bob": "zed"}, STAND),
                         (1, ("cave", "yard"), ("cave", "zed")))
        self.assertEqual(turned_stand(hall=make_hall(), names={"cave": "ball", "ball": "cave"}, stand=STAND),
                         (1, ("ball", "yard"), ("bob", "ball")))
        self.assertEqual(turned_stand(make_hall(), {"ann": "bob", "bob": "ann"}, STAND),
                         (1, ("cave", "yard"), ("ann", "cave")))

    def test_ways(self):
        way = [("go", "gate"), ("lift", "ball"), ("wait",), ("lay", "axe"), ("go", "nosuch"), ("go", "wait")]
        names = {"gate": "go", "ball": "gate", "axe": "wait", "go": "zz"}
        for kind in (list, tuple):
            told = turned_way(names, kind(way))
            self.assertEqual(told, (("go", "go"), ("lift", "gate"), ("wait",), ("lay", "wait"), ("go", "nosuch"),
                                    ("go", "wait")))
            self.assertIs(type(told), tuple)
        self.assertEqual(turned_way(names=names, way=()), ())
        self.assertEqual(turned_way({"wait": "x", "lay": "y"}, [("wait",), ("lay", "wait")]), (("wait",), ("lay", "x")))
        self.assertEqual(way[0], ("go", "gate"))

    def test_ways_of_things_of_any_form(self):
        names = {"gate": "door", "go": "x"}
        for thing in ANYTHING + [["go", "gate"], ("go", ["gate"]), ("go", "gate", "gate"), "go", ("jump", "gate")]:
            self.assertEqual(turned_way(names, [("go", "gate"), thing]), (("go", "door"), thing))

    def test_goals(self):
        goal = (("bears", "cave", 5), ("at", "ann", "cave"), ("open", "nosuch"), ("lies", "ball", "yard"),
                ("held", "axe", "bob"), ("open", "gate"), ("at", "ann", "cave"))
        names = {"cave": "at", "ann": "open", "ball": "lies", "bob": "bears", "gate": "held", "at": "zz"}
        told = turned_goal(names, goal)
        self.assertEqual(told, (("bears", "at", 5), ("at", "open", "at"), ("open", "nosuch"), ("lies", "lies", "yard"),
                                ("held", "axe", "bears"), ("open", "held"), ("at", "open", "at")))
        self.assertIs(type(told), tuple)
        self.assertIs(type(told[0][2]), int)
        self.assertIsNone(need_goal(turned(make_hall(), names), told))
        self.assertEqual(turned_goal(names=names, goal=()), ())

    def test_what_a_hall_tells_the_turned_one_tells(self):
        dice = Random(112)
        numbers = []
        for case in small_cases(60, 113):
            hall, stand, goal = case.hall, case.stand, case.goal
            names = TurnedTest().names(hall, dice)
            if any(wish[0] == "open" and wish[1] not in hall.doors() and wish[1] in names.values() for wish in goal):
                continue
            other, there, wishes = turned(hall, names), turned_stand(hall, names, stand), turned_goal(names, goal)
            side = None if case.side is None else [names.get(walker, walker) for walker in case.side]
            options = {"prices": case.prices, "still": [names.get(walker, walker) for walker in case.still]}
            play, second = Play(hall, goal, **case.options()), Play(other, wishes, side=side, **options)
            self.assertEqual({turned_stand(hall, names, spot) for spot in reach(play, stand)},
                             set(reach(second, there)))
            numbers.append(value(play, stand))
            self.assertEqual(value(second, there), numbers[-1])
            for length in (0, 1, 3, 9):
                self.assertEqual(count_ways(second, there, length), count_ways(play, stand, length))
            self.assertEqual(fence(other, there), {names.get(thing, thing): sorted(names.get(room, room) for room in rooms)
                                                   for thing, rooms in fence(hall, stand).items()})
            for look, told in ((bars, barring(play, stand)), (forces, forcing(play, stand))):
                paper = [(turned_stand(hall, names, row[0]), *row[1:]) for row in told]
                self.assertIs(look(second, paper), True)
            for word in ("wall", "walk", "force"):
                self.assertEqual([sorted(tuple(sorted(names.get(name, name) for name in lot)) for lot in some)
                                  for some in lots(hall, stand, goal, word, most=5000)],
                                 list(lots(other, there, wishes, word, most=5000)))
            found = cheapest(Play(hall, goal), stand)
            if found is not None:
                self.assertEqual([turned_stand(hall, names, spot) for spot in played(hall, stand, found[1])],
                                 played(other, there, turned_way(names, found[1])))
        self.assertGreater(len(set(numbers)), 3)


class IsTurningTest(unittest.TestCase):
    def check(self, hall, thing, is_one):
        self.assertIs(is_turning(hall, thing), is_one, thing)

    def test_turnings(self):
        hall = star_hall()
        self.check(hall, (), True)
        for pairs in ([("ra", "rb"), ("da", "db")], [("rb", "rc"), ("db", "dc")], [("sa", "sb")],
                      [("sa", "sb"), ("ra", "rc"), ("da", "dc")]):
            self.check(hall, twos(*pairs), True)
            self.assertIs(is_turning(hall=hall, thing=twos(*pairs)), True)
        about = (("da", "db"), ("db", "dc"), ("dc", "da"), ("ra", "rb"), ("rb", "rc"), ("rc", "ra"))
        self.check(hall, about, True)
        for at in range(len(about)):
            # A pair out, twice, in another place, a list, a name that stays.
            one = about[at]
            self.check(hall, about[:at] + about[at + 1:], False)
            self.check(hall, about[:at] + (one,) + about[at:], False)
            self.check(hall, about + (one,), False)
            self.check(hall, about[:at] + (list(one),) + about[at + 1:], False)
            self.check(hall, about[:at] + ((one[0], one[0]),) + about[at + 1:], False)
            self.check(hall, about[:at] + (one[::-1],) + about[at + 1:], False)
            self.check(hall, about[:at] + ((one[0], one[1], one[1]),) + about[at + 1:], False)
            self.check(hall, about[:at] + (one[0],) + about[at + 1:], False)
        # Pairs twice, each come to twice.
        self.check(hall, tuple(sorted(about + about)), False)
        self.check(hall, tuple(sorted(twos(("sa", "sb")) * 2)), False)
        self.check(hall, about[::-1], False)
        for at in range(len(about) - 1):
            self.check(hall, about[:at] + about[at:at + 2][::-1] + about[at + 2:], False)
        self.check(hall, about[1:] + about[:1], False)
        self.check(hall, list(about), False)
        self.check(hall, dict(about), False)
        self.check(hall, about[:3] + (("mid", "mid"),) + about[3:], False)

    def test_names_of_nobody_walkers_and_others_of_the_sort(self):
        hall = star_hall()
        for pairs in ([("ra", "rb")], [("da", "db")], [("ra", "rb"), ("da", "dc")], [("ra", "mid")], [("sa", "zz")],
                      [("sa", "w")], [("ra", "sa")], [("sa", "sb"), ("w", "zz")], [("yy", "zz")], [("da", "ra")],
                      [("ra", "rb"), ("da", "db"), ("yy", "zz")]):
            self.check(hall, twos(*pairs), False)
        two = remade(hall, walkers=[("v", 1, 1), ("w", 1, 1)])
        self.check(two, twos(("v", "w")), False)
        self.check(two, twos(("sa", "sb"), ("v", "w")), False)
        self.check(two, twos(("sa", "sb")), True)
        # Halls whose names of unlike sorts could be exchanged, if sorts didn't count.
        for one, other in (("d", "s"), ("a", "s"), ("a", "d")):
            self.check(Hall(["a", "b"], [("d", "a", "b", "both", [])], [("s", 1)], [("w", 1, 1)]), twos((one, other)), False)
        # Elsewhere: two to the same name, or one to a name that is left.
        self.check(hall, (("sa", "sb"),), False)
        self.check(hall, (("sa", "sb"), ("sb", "sb")), False)
        self.check(star_hall(stones=("sa", "sb", "sc")), (("sa", "sb"), ("sb", "sa"), ("sc", "sa")), False)
        self.check(star_hall(stones=("sa", "sb", "sc")), (("sa", "sb"), ("sb", "sc")), False)

    def test_hefts_rows_and_ways_that_arent_alike(self):
        parts = parts_of(star_hall())
        swap = twos(("ra", "rb"), ("da", "db"))
        stones = twos(("sa", "sb"))
        self.check(remade(star_hall(), stones=[("sa", 3), ("sb", 4)]), stones, False)
        self.check(remade(star_hall(), stones=[("sa", 3), ("sb", 4)]), swap, True)
        for door in (("da", "mid", "ra", "on", parts["doors"][0][4]), ("da", "mid", "ra", "both", [("ra", 0, 9)]),
                     ("da", "mid", "ra", "both", [("mid", 0, None), ("ra", 0, 8)]),
                     ("da", "mid", "ra", "both", [("mid", 0, None), ("ra", 0, None)]),
                     ("da", "mid", "ra", "both", [("mid", 0, None), ("rb", 0, 9)]),
                     ("da", "rc", "ra", "both", parts["doors"][0][4])):
            hall = remade(star_hall(), doors=[door] + parts["doors"][1:])
            self.check(hall, swap, False)
            self.check(hall, stones, True)
        on = [(name, one, other, "on", rows) for name, one, other, _, rows in parts["doors"]]
        self.check(remade(star_hall(), doors=on), swap, True)
        about = [(*door[:1], *door[1:3][::-1], *door[3:]) for door in on[:1]] + on[1:]
        self.check(remade(star_hall(), doors=about), swap, False)
        # A door that goes both ways, turned about: its rooms are exchanged.
        hall = Hall(["a", "b"], [("d", "a", "b", "both", [])], [], [("w", 1, 1)])
        self.check(hall, twos(("a", "b")), True)
        self.check(remade(hall, doors=[("d", "a", "b", "on", [])]), twos(("a", "b")), False)

    def test_anything(self):
        hall = star_hall()
        swap = twos(("sa", "sb"))
        for thing in ANYTHING:
            self.check(hall, thing, thing == () and isinstance(thing, tuple))
            self.check(hall, (thing,), False)
            self.check(hall, (thing,) + swap, False)
            self.check(hall, swap + (thing,), False)
            self.check(hall, (("sa", thing), ("sb", "sa")), False)
            self.check(hall, ((thing, "sb"), ("sb", "sa")), False)
            self.check(hall, ((thing, thing),), False)

    def test_beside_all_exchanges_tried(self):
        dice = Random(114)
        many = []
        for hall in symmetric_halls(40, 115):
            found = slow_turnings(hall)
            many.append(len(found))
            for turning in found[:20]:
                self.check(hall, turning, True)
            names = hall.rooms() + hall.doors() + hall.stones()
            for _ in range(20):
                some = dice.sample(names, min(len(names), dice.randint(2, 4)))
                thing = tuple(sorted(zip(some, some[1:] + some[:1])))
                self.check(hall, thing, thing in found)
        self.assertGreater(len(set(many)), 3)

    def test_great_halls(self):
        self.check(great_hall(), (), True)
        self.check(great_hall(), twos(("sa", "sc"), ("sb", "sl")), True)
        self.check(great_hall(), twos(("sa", "sb")), False)
        self.check(great_hall(), twos(("daa", "dfj"), ("rae", "rdj")), True)
        hall, _, _ = full_hall()
        self.check(hall, twos(("ta", "tk"), ("tb", "tc")), True)
        self.check(hall, twos(("ta", "weight")), False)


def symmetric_halls(many, seed):
    """Small halls told by the dice, in which something may be exchanged for its like."""
    dice = Random(seed)
    for _ in range(many):
        rooms = ["p", "q", "r"]
        rows = dice.choice([(), ("one",), ("one", "other")])
        doors = []
        for name, one, other in dice.sample([("da", "p", "q"), ("db", "q", "r"), ("dc", "r", "p"), ("dd", "p", "q")],
                                            dice.randint(0, 4)):
            ends = {"one": one, "other": other}
            doors.append((name, one, other, dice.choice(["both", "both", "on"]), [(ends[end], 1, None) for end in rows]))
        stones = [(name, dice.choice([1, 1, 2])) for name in ("sa", "sb", "sc")[:dice.randint(0, 3)]]
        yield Hall(rooms, doors, stones, [("w", 1, 1), ("v", 1, 1)])


class TurningsTest(unittest.TestCase):
    THREE = star_hall(stones=("sa", "sb", "sc"))

    def test_none_and_one(self):
        hall = star_hall()
        swap = twos(("sa", "sb"))
        for kind in (list, tuple):
            self.assertEqual(turnings(hall, kind([])), [()])
            self.assertEqual(turnings(hall, kind([()])), [()])
            self.assertEqual(turnings(hall, kind([swap])), [(), swap])
            self.assertEqual(turnings(hall=hall, some=kind([swap, (), swap]), most=2), [(), swap])
        self.assertIs(type(turnings(hall, [])), list)

    def test_one_that_comes_back_behind_three(self):
        about = (("sa", "sb"), ("sb", "sc"), ("sc", "sa"))
        other = (("sa", "sc"), ("sb", "sa"), ("sc", "sb"))
        self.assertEqual(turnings(self.THREE, [about]), [(), about, other])
        self.assertEqual(turnings(self.THREE, [other, about, other]), [(), about, other])

    def test_several_and_in_which_order_they_are_done(self):
        one, other = twos(("sa", "sb")), twos(("sb", "sc"))
        found = turnings(self.THREE, [one, other])
        self.assertEqual(len(found), 6)
        self.assertEqual(found, [turning for turning in slow_turnings(self.THREE) if all("s" in pair[0] for pair in turning)])
        self.assertEqual(turnings(self.THREE, [other, one]), found)
        self.assertEqual(turnings(self.THREE, [one, twos(("da", "db"), ("ra", "rb"))]),
                         sorted([(), one, twos(("da", "db"), ("ra", "rb")), twos(("da", "db"), ("ra", "rb"), ("sa", "sb"))]))

    def test_beside_all_exchanges_tried(self):
        dice = Random(116)
        many = []
        for hall in symmetric_halls(60, 117):
            found = slow_turnings(hall)
            self.assertEqual(turnings(hall, found, most=10 ** 4), found)
            some = [dice.choice(found) for _ in range(dice.randint(0, 3))]
            kept = list(some)
            expected = self.slow_closed(some)
            self.assertEqual(turnings(hall, some), expected)
            self.assertEqual(turnings(hall, tuple(some + some[:1])), expected)
            self.assertEqual(some, kept)
            many.append(len(expected))
            self.assertEqual(turnings(hall, some, most=len(expected)), expected)
            if len(expected) > 1:
                with self.assertRaises(TooMany) as caught:
                    turnings(hall, some, most=len(expected) - 1)
                self.assertEqual(caught.exception.most, len(expected) - 1)
        self.assertGreater(len(set(many)), 3)

    def slow_closed(self, some):
        """All that come of some, each two done one behind the other until nothing new comes."""
        found = {()} | set(some)
        while True:
            both = {self.behind(one, other) for one in found for other in found} | found
            if both == found:
                return sorted(found)
            found = both

    def behind(self, one, other):
        first, second = dict(one), dict(other)
        names = sorted({name for name, _ in one + other})
        ends = [(name, second.get(first.get(name, name), first.get(name, name))) for name in names]
        return tuple((name, end) for name, end in ends if name != end)

    def test_told_lists_are_new(self):
        swap = twos(("sa", "sb"))
        turnings(star_hall(), [swap]).clear()
        self.assertEqual(turnings(star_hall(), [swap]), [(), swap])


class RefusalsTest(unittest.TestCase):
    def test_no_turning_at_the_first_that_is_none(self):
        hall = star_hall()
        swap = twos(("sa", "sb"))
        for thing in ANYTHING + [twos(("ra", "rb")), list(swap), swap[::-1], swap[:1], twos(("w", "zz"))]:
            if thing == () and isinstance(thing, tuple):
                continue
            for kind in (list, tuple):
                for some, at in (([thing], 0), ([swap, (), thing], 2), ([(), thing, swap, thing], 1), ([thing, thing], 0)):
                    for most in (1, 200):
                        with self.assertRaises(NoTurning) as caught:
                            turnings(hall, kind(some), most=most)
                        self.assertEqual(caught.exception.at, at)

    def like_stones(self, many):
        """A hall of so many like stones, and as few turnings as all come of."""
        names = [f"s{letter}" for letter in "abcdefghijkl"[:many]]
        hall = Hall(["a"], [], [(name, 1) for name in names], [("w", 1, 1)])
        return hall, [twos(pair) for pair in zip(names, names[1:])]

    def test_the_default_of_two_hundred(self):
        hall, some = self.like_stones(5)
        self.assertEqual(len(turnings(hall, some)), 120)
        hall, some = self.like_stones(6)
        for most in ({}, {"most": 200}, {"most": 719}, {"most": 1}):
            with self.assertRaises(TooMany) as caught:
                turnings(hall, some, **most)
            self.assertEqual(caught.exception.most, most.get("most", 200))
        found = turnings(hall, some, most=720)
        self.assertEqual((len(found), found), (720, sorted(set(found))))
        self.assertEqual(turnings(hall, found, most=720), found)
        self.assertEqual(turnings(hall, some[::-1] + found[::100], most=720), found)
        self.assertRaises(TypeError, turnings, hall, some, 720)

    def test_far_more_than_most(self):
        hall, some = self.like_stones(12)
        self.assertRaises(TooMany, turnings, hall, some)
        self.assertRaises(TooMany, turnings, great_hall(), [twos((one, other)) for one in great_hall().doors()
                                                           for other in great_hall().doors() if one < other])

    def test_exactly_two_hundred(self):
        # Five like stones about in a ring, and the like of eight that are exchanged in pairs: 5 * 8 * 5.
        names = [f"s{letter}" for letter in "abcdefghijkl"]
        hall = Hall(["a"], [], [(name, 1) for name in names], [("w", 1, 1)])
        some = [tuple(sorted(zip(names[:5], names[1:5] + names[:1]))), tuple(sorted(zip(names[5:10], names[6:10] + names[5:6]))),
                twos(names[10:])]
        self.assertEqual(len(turnings(hall, some)), 50)
        doors = [(f"d{letter}", "a", "b", "both", []) for letter in "abcd"]
        hall = remade(hall, rooms=["a", "b"], doors=doors)
        some.append((("da", "db"), ("db", "dc"), ("dc", "dd"), ("dd", "da")))
        self.assertEqual(len(turnings(hall, some)), 200)
        some.append(twos(("a", "b")))
        self.assertRaises(TooMany, turnings, hall, some)
        self.assertEqual(len(turnings(hall, some, most=400)), 400)


class NothingChangedTest(unittest.TestCase):
    def test_the_hall_and_the_names(self):
        hall = make_hall()
        names = {"cave": "zoo"}
        turned(hall, names)
        turned_stand(hall, names, STAND)
        self.assertEqual((hall, names), (make_hall(), {"cave": "zoo"}))
        for some in (some_hall(Random(118)), hall):
            kept = show_hall(some)
            turned(some, names).rooms().clear()
            is_turning(some, (("cave", "yard"), ("yard", "cave")))
            self.assertEqual(show_hall(some), kept)
        self.assertEqual(len(all_from(hall, STAND)), len(reach(Play(hall, ()), STAND)))


if __name__ == "__main__":
    unittest.main()
