"""Promise 15: ways and their texts."""

import random
import unittest

from samples import ANYTHING, STAND, make_hall, some_pairs
from weighdoors.deeds import deeds, done
from weighdoors.errors import NoDeed, NoText, NoWay
from weighdoors.ways import played, read_way, show_way

WAY = (("go", "gate"), ("lay", "axe"), ("lift", "axe"), ("wait",), ("go", "gate"))


class PlayedTest(unittest.TestCase):
    def test_the_stands_with_the_first_one(self):
        hall = make_hall()
        stands = [
            (1, ("cave", "yard"), ("bob", "cave")),
            (0, ("cave", "cave"), ("bob", "cave")),
            (1, ("cave", "cave"), ("cave", "cave")),
            (0, ("cave", "cave"), ("ann", "cave")),
            (1, ("cave", "cave"), ("ann", "cave")),
            (0, ("cave", "yard"), ("ann", "cave")),
        ]
        self.assertEqual(played(hall, STAND, WAY), stands)
        self.assertEqual(played(hall=hall, stand=STAND, way=list(WAY)), stands)
        self.assertIs(type(played(hall, STAND, WAY)), list)

    def test_the_empty_way(self):
        for way in ((), []):
            self.assertEqual(played(make_hall(), STAND, way), [STAND])

    def test_nothing_is_changed(self):
        hall = make_hall()
        way = list(WAY)
        played(hall, STAND, way).clear()
        self.assertEqual(way, list(WAY))
        self.assertEqual(hall, make_hall())
        self.assertEqual(len(played(hall, STAND, way)), 6)

    def refused(self, way, at, why):
        for kind in (tuple, list):
            with self.assertRaises(NoWay) as caught:
                played(make_hall(), STAND, kind(way))
            self.assertEqual((caught.exception.at, caught.exception.why), (at, why))

    def test_no_way(self):
        self.refused([("go", "slide")], 0, "room")
        self.refused([("go", "nosuch")], 0, "door")
        self.refused([("wait",), ("lift", "ball")], 1, "hands")
        self.refused([("wait",), ("lay", "ball")], 1, "held")
        self.refused([("wait",), ("lay", "nosuch"), None], 1, "stone")
        self.refused([("lift", "ball"), ("go", "slide")], 0, "far")
        self.refused(WAY + (("go", "trap"),), 5, "shut")
        self.refused([("wait",)] * 60 + [("wait", "x")], 60, "form")

    def test_things_of_any_form(self):
        for thing in ANYTHING + [["wait"], "wait"]:
            self.refused([thing], 0, "form")
            self.refused([("wait",), thing, ("go", "nosuch")], 1, "form")

    def test_beside_deeds_one_by_one(self):
        dice = random.Random(1)
        for hall, stand in some_pairs(100, 17):
            way, stands = [], [stand]
            for _ in range(8):
                way.append(dice.choice(deeds(hall, stands[-1])))
                stands.append(done(hall, stands[-1], way[-1]))
            self.assertEqual(played(hall, stand, tuple(way)), stands)
            with self.assertRaises(NoDeed) as deed:
                done(hall, stands[-1], ("go", "nosuch"))
            with self.assertRaises(NoWay) as caught:
                played(hall, stand, way + [("go", "nosuch")])
            self.assertEqual((caught.exception.at, caught.exception.why), (8, deed.exception.why))


class TextTest(unittest.TestCase):
    def test_both_ways_about(self):
        for way, text in (
            ((), ""),
            ((("wait",),), "wait"),
            ((("go", "gate"), ("lift", "ball"), ("wait",)), "go gate, lift ball, wait"),
            (WAY, "go gate, lay axe, lift axe, wait, go gate"),
            ((("go", "wait"), ("lay", "go"), ("lift", "abcdefgh")), "go wait, lay go, lift abcdefgh"),
            ((("wait",),) * 500, ", ".join(["wait"] * 500)),
        ):
            self.assertEqual(show_way(way), text)
            self.assertEqual(show_way(way=list(way)), text)
            self.assertEqual(read_way(text), way)
            self.assertEqual(read_way(text=text), way)
            self.assertIs(type(read_way(text)), tuple)
            self.assertIs(type(show_way(way)), str)

    def refused(self, text, row):
        with self.assertRaises(NoText) as caught:
            read_way(text)
        self.assertEqual(caught.exception.row, row, text)

    def test_what_is_no_text(self):
        for thing in ANYTHING + [b"wait", ["wait"], WAY]:
            if not isinstance(thing, str):
                self.refused(thing, 0)

    def test_parts_that_write_no_deed(self):
        for part in ("", " ", "go", "lift", "lay", "go ", "wait ", " wait", "wait wait", "go  gate", " go gate",
                     "go gate ", "go gate yard", "go Gate", "run gate", "Wait", "go ninelette", "lift a1", "lay -",
                     "wait,", ",wait", "go gate,lift ball", "go\tgate", "go gate\n", "end", "go caf\u00e9",
                     "go gate,"):
            if part != "":
                self.refused(part, 0)
            self.refused(f"{part}, wait", 0)
            self.refused(f"wait, {part}", 1)
            self.refused(f"go gate, wait, {part}, go", 2)

    def test_blanks_and_commas_too_many(self):
        self.refused("wait,  wait", 1)
        self.refused("wait,wait", 0)
        self.refused("wait,, wait", 0)
        self.refused("wait, , wait", 1)
        self.refused("wait, ", 1)
        self.refused("wait,", 0)
        self.refused(", wait", 0)
        self.refused(", ", 0)
        self.refused("wait , wait", 0)
        self.refused("wait\nwait", 0)
        self.refused("wait, wait\n", 1)


if __name__ == "__main__":
    unittest.main()
