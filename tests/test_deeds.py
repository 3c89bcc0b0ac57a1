"""Promise 14: deeds."""

import unittest

from samples import ANYTHING, STAND, all_deeds, make_hall, slow_done, some_pairs
from weighdoors.deeds import deeds, done, swung
from weighdoors.errors import NoDeed
from weighdoors.halls import Hall
from weighdoors.stands import is_stand, open_doors

NO_DEEDS = [
    ["go", "gate"], ["wait"], "wait", "go gate", ("go",), ("lift",), ("lay",), (), ("go", "gate", "gate"),
    ("wait", "gate"), ("wait", None), ("run", "gate"), ("Go", "gate"), ("wait ",), ("go", "Gate"), ("go", ""),
    ("go", "ninelette"), ("go", "gate "), ("lift", "a1"), ("lay", None), ("go", True), ("go", 1), ("go", ("gate",)),
    ("go", ["gate"]), (None, "gate"), (["go"], "gate"), ("gate", "go"), ({"go": 1}, "ball"), ("end",),
    ("lift", "caf\u00e9"),
]


class DoneTest(unittest.TestCase):
    def test_each_deed(self):
        hall = make_hall()
        self.assertEqual(done(hall, STAND, ("go", "gate")), (0, ("cave", "cave"), ("bob", "cave")))
        self.assertEqual(done(hall, STAND, ("wait",)), (0, ("cave", "yard"), ("bob", "cave")))
        stand = (0, ("cave", "yard"), ("bob", "cave"))
        self.assertEqual(done(hall, stand, ("lay", "axe")), (1, ("cave", "yard"), ("cave", "cave")))
        stand = (0, ("cave", "yard"), ("cave", "cave"))
        self.assertEqual(done(hall, stand, ("lift", "ball")), (1, ("cave", "yard"), ("cave", "bob")))
        self.assertEqual(done(hall=hall, stand=stand, deed=("lift", "axe")), (1, ("cave", "yard"), ("bob", "cave")))

    def test_what_it_carries_comes_along(self):
        hall = make_hall()
        stand = (1, ("cave", "yard"), ("ann", "ann"))
        behind = done(hall, stand, ("go", "arch"))
        self.assertEqual(behind, (0, ("cave", "tower"), ("ann", "ann")))
        self.assertEqual(done(hall, (1, *behind[1:]), ("lay", "ball")), (0, ("cave", "tower"), ("ann", "tower")))

    def test_the_turn_goes_round(self):
        hall = Hall(["a"], [], [], [("w", 1, 0), ("v", 1, 0), ("u", 1, 0)])
        rooms = ("a", "a", "a")
        self.assertEqual([done(hall, (turn, rooms, ()), ("wait",))[0] for turn in range(3)], [1, 2, 0])
        alone = Hall(["a"], [], [], [("w", 1, 0)])
        self.assertEqual(done(alone, (0, ("a",), ()), ("wait",)), (0, ("a",), ()))

    def test_doors_that_go_both_ways_and_on(self):
        hall = make_hall()
        self.assertEqual(done(hall, (1, ("cave", "tower"), ("cave", "cave")), ("go", "slide"))[1], ("cave", "cave"))
        self.assertEqual(done(hall, (1, ("yard", "tower"), ("cave", "cave")), ("go", "arch"))[1], ("yard", "yard"))
        self.assertEqual(done(hall, (1, ("yard", "yard"), ("cave", "cave")), ("go", "arch"))[1], ("yard", "tower"))

    def test_told_is_a_stand_and_nothing_is_changed(self):
        hall = make_hall()
        behind = done(hall, STAND, ("go", "gate"))
        self.assertIs(is_stand(hall, behind), True)
        self.assertEqual([type(part) for part in behind], [int, tuple, tuple])
        self.assertEqual(hall, make_hall())
        self.assertEqual(STAND, (1, ("cave", "yard"), ("bob", "cave")))


class RefusedTest(unittest.TestCase):
    def refused(self, hall, stand, deed, why):
        for ask in (done, swung):
            with self.assertRaises(NoDeed) as caught:
                ask(hall, stand, deed)
            self.assertEqual(caught.exception.why, why)
        self.assertNotIn(deed, deeds(hall, stand))

    def test_form(self):
        hall = make_hall()
        for deed in NO_DEEDS + ANYTHING:
            self.refused(hall, STAND, deed, "form")
        for thing in ANYTHING:
            if thing not in ("a",):
                for word in ("go", "lift", "lay"):
                    self.refused(hall, STAND, (word, thing), "form")
            self.refused(hall, STAND, (thing, "gate"), "form")
            self.refused(hall, STAND, ("wait", thing), "form")

    def test_door(self):
        for name in ("nosuch", "cave", "ball", "ann", "a"):
            self.refused(make_hall(), STAND, ("go", name), "door")

    def test_room(self):
        # Ann is in the yard: the slide leads from the tower alone, the trap into the yard alone.
        self.refused(make_hall(), STAND, ("go", "slide"), "room")
        self.refused(make_hall(), STAND, ("go", "trap"), "room")
        self.refused(make_hall(), (1, ("cave", "tower"), ("bob", "cave")), ("go", "gate"), "room")
        # Shut, too, but the room goes first.
        self.refused(make_hall(), (1, ("tower", "tower"), ("bob", "yard")), ("go", "gate"), "room")
        self.refused(make_hall(), (1, ("yard", "cave"), ("bob", "yard")), ("go", "slide"), "room")

    def test_shut(self):
        self.refused(make_hall(), (1, ("yard", "yard"), ("yard", "yard")), ("go", "gate"), "shut")
        self.refused(make_hall(), (1, ("yard", "cave"), ("yard", "yard")), ("go", "trap"), "shut")

    def test_open_by_the_goers_own_weight_alone(self):
        hall = make_hall()
        stand = (0, ("cave", "tower"), ("bob", "tower"))
        self.assertIn("gate", open_doors(hall, stand))
        self.refused(hall, stand, ("go", "gate"), "shut")
        # A stone that it carries counts no more than itself.
        hall = Hall(["a", "b"], [("d", "a", "b", "both", [("a", 3, None)])], [("s", 3)], [("w", 0, 1)])
        self.refused(hall, (0, ("a",), ("w",)), ("go", "d"), "shut")
        self.assertEqual(done(hall, (0, ("a",), ("a",)), ("go", "d")), (0, ("b",), ("a",)))

    def test_shut_by_the_goers_own_weight_alone(self):
        hall = Hall(["a", "b"], [("d", "a", "b", "both", [("a", 0, 2)])], [("s", 3)], [("w", 3, 1)])
        stand = (0, ("a",), ("w",))
        self.assertEqual(open_doors(hall, stand), [])
        self.assertEqual(done(hall, stand, ("go", "d")), (0, ("b",), ("w",)))
        self.refused(hall, (0, ("a",), ("a",)), ("go", "d"), "shut")

    def test_lift(self):
        hall = make_hall()
        for name in ("nosuch", "cave", "gate", "ann", "a"):
            self.refused(hall, STAND, ("lift", name), "stone")
        self.refused(hall, STAND, ("lift", "ball"), "far")
        self.refused(hall, STAND, ("lift", "axe"), "far")
        self.refused(hall, (0, ("yard", "yard"), ("ann", "yard")), ("lift", "axe"), "far")
        # What it carries already lies nowhere, and that goes ahead of its hands.
        self.refused(hall, (0, *STAND[1:]), ("lift", "axe"), "far")
        self.refused(hall, (0, ("cave", "yard"), ("bob", "yard")), ("lift", "ball"), "far")
        self.refused(hall, (0, *STAND[1:]), ("lift", "ball"), "hands")
        handless = Hall(["a"], [], [("s", 0)], [("w", 0, 0)])
        self.refused(handless, (0, ("a",), ("a",)), ("lift", "s"), "hands")

    def test_lay(self):
        hall = make_hall()
        for name in ("nosuch", "cave", "gate", "bob", "a"):
            self.refused(hall, STAND, ("lay", name), "stone")
        self.refused(hall, STAND, ("lay", "axe"), "held")
        self.refused(hall, (0, *STAND[1:]), ("lay", "ball"), "held")


class DeedsTest(unittest.TestCase):
    def test_rising(self):
        hall = make_hall()
        self.assertEqual(deeds(hall, STAND), [("go", "arch"), ("go", "gate"), ("wait",)])
        self.assertEqual(deeds(hall=hall, stand=(1, ("cave", "yard"), ("ann", "yard"))),
                         [("go", "arch"), ("go", "gate"), ("lay", "axe"), ("lift", "ball"), ("wait",)])
        # All hands full; the yard bears bob and the ball, and the axe goes with ann.
        stand = (0, ("yard", "yard"), ("bob", "yard"))
        self.assertEqual(deeds(hall, stand), [("go", "arch"), ("lay", "axe"), ("wait",)])
        self.assertEqual(deeds(hall, (0, *STAND[1:])), [("go", "gate"), ("lay", "axe"), ("wait",)])

    def test_kinds_and_new_lists(self):
        hall = make_hall()
        told = deeds(hall, STAND)
        self.assertIs(type(told), list)
        self.assertEqual({type(deed) for deed in told}, {tuple})
        told.clear()
        self.assertEqual(len(deeds(hall, STAND)), 3)

    def test_beside_the_slow_model(self):
        told = set()
        for hall, stand in some_pairs(600, 15):
            can = []
            for deed in all_deeds(hall):
                behind = slow_done(hall, stand, deed)
                if isinstance(behind, str):
                    told.add(behind)
                    with self.assertRaises(NoDeed) as caught:
                        done(hall, stand, deed)
                    self.assertEqual(caught.exception.why, behind)
                else:
                    can.append(deed)
                    self.assertEqual(done(hall, stand, deed), behind)
                    self.assertIs(is_stand(hall, behind), True)
            self.assertEqual(deeds(hall, stand), can)
        self.assertEqual(told, {"room", "shut", "far", "hands", "held"})


class SwungTest(unittest.TestCase):
    def test_opened_and_shut(self):
        hall = make_hall()
        self.assertEqual(swung(hall, STAND, ("wait",)), ([], []))
        # Ann leaves the yard for the tower with the ball: the tower bears eleven.
        stand = (1, ("yard", "yard"), ("yard", "ann"))
        self.assertEqual(swung(hall, stand, ("go", "arch")), ([], []))
        # The axe in the cave alone holds the gate; the yard bears too much.
        stand = (1, ("yard", "yard"), ("cave", "ann"))
        self.assertEqual(swung(hall=hall, stand=stand, deed=("go", "arch")), (["gate"], []))
        # The ball in the tower holds the trap; ann treads on it.
        stand = (1, ("yard", "yard"), ("cave", "tower"))
        self.assertEqual(swung(hall, stand, ("go", "arch")), ([], ["trap"]))
        stand = (0, ("cave", "tower"), ("bob", "tower"))
        self.assertEqual(swung(hall, stand, ("lay", "axe")), ([], []))

    def test_both_at_once_and_rising(self):
        rows = {"da": [("a", 0, 0)], "db": [("b", 1, None)], "dc": [("a", 1, None)], "dd": [("b", 0, 0)],
                "de": [("a", 0, 0), ("b", 1, None)], "df": [], "dg": [("a", 1, 1), ("b", 0, 0)]}
        hall = Hall(["a", "b"], [(name, "a", "b", "both", rows[name]) for name in rows], [], [("w", 1, 0)])
        opened, shut = swung(hall, (0, ("a",), ()), ("go", "df"))
        self.assertEqual((opened, shut), (["da", "db", "de"], ["dc", "dd", "dg"]))
        self.assertEqual([type(opened), type(shut)], [list, list])
        self.assertIs(type(swung(hall, (0, ("a",), ()), ("wait",))), tuple)

    def test_beside_open_doors(self):
        for hall, stand in some_pairs(200, 16):
            for deed in deeds(hall, stand):
                ahead = open_doors(hall, stand)
                behind = open_doors(hall, done(hall, stand, deed))
                self.assertEqual(swung(hall, stand, deed),
                                 (sorted(set(behind) - set(ahead)), sorted(set(ahead) - set(behind))))


if __name__ == "__main__":
    unittest.main()
