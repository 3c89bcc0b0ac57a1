"""Promise 16: ways back."""

import random
import unittest

from samples import STAND, make_hall, some_pairs
from weighdoors.backs import way_back
from weighdoors.deeds import deeds, done
from weighdoors.errors import NoBack, NoWay
from weighdoors.halls import Hall
from weighdoors.ways import played


class WayBackTest(unittest.TestCase):
    def check(self, hall, stand, way):
        back = way_back(hall, stand, way)
        self.assertIs(type(back), tuple)
        behind = played(hall, played(hall, stand, way)[-1], back)[-1]
        self.assertEqual(behind[1:], stand[1:])
        others = [deed for deed in way if deed != ("wait",)]
        self.assertLessEqual(len(back), len(others) * len(hall.walkers()))
        return back

    def test_back_to_the_same_places(self):
        hall = make_hall()
        for way in ([("go", "gate")], [("go", "gate"), ("lay", "axe"), ("lift", "axe"), ("wait",), ("go", "gate")],
                    [("go", "arch"), ("lay", "axe"), ("wait",), ("lift", "ball"), ("wait",), ("wait",)]):
            self.check(hall, STAND, way)
            self.check(hall, STAND, tuple(way))

    def test_by_names(self):
        self.assertEqual(way_back(hall=make_hall(), stand=STAND, way=[("wait",)]), ())

    def test_waits_alone(self):
        for many in range(5):
            self.assertEqual(self.check(make_hall(), STAND, [("wait",)] * many), ())

    def test_one_walker(self):
        hall = Hall(["a", "b"], [("d", "a", "b", "both", [("b", 0, 3)])], [("s", 4)], [("w", 3, 1)])
        way = [("go", "d"), ("wait",), ("lift", "s"), ("go", "d"), ("lay", "s")]
        stand = (0, ("a",), ("b",))
        self.assertRaises(NoWay, way_back, hall, stand, way)
        stand = (0, ("b",), ("b",))
        way = [("lift", "s"), ("wait",), ("go", "d"), ("lay", "s"), ("go", "d")]
        back = self.check(hall, stand, way)
        self.assertEqual(back, (("go", "d"), ("lift", "s"), ("go", "d"), ("lay", "s")))

    def test_no_way_ahead_of_no_back(self):
        hall = make_hall()
        stand = (1, ("cave", "tower"), ("bob", "cave"))
        with self.assertRaises(NoWay) as caught:
            way_back(hall, stand, [("go", "slide"), ("go", "arch"), ("wait",)])
        self.assertEqual((caught.exception.at, caught.exception.why), (1, "room"))
        for thing in (None, ["wait"], ("go", 1), ("go", []), ()):
            with self.assertRaises(NoWay) as caught:
                way_back(hall, stand, (("go", "slide"), thing))
            self.assertEqual((caught.exception.at, caught.exception.why), (1, "form"))

    def test_no_back_at_the_first_door_that_goes_on_alone(self):
        hall = make_hall()
        stand = (1, ("cave", "tower"), ("bob", "tower"))
        for way, at in (([("go", "slide")], 0), ([("wait",), ("wait",), ("go", "slide"), ("wait",)], None),
                        ([("lift", "ball"), ("wait",), ("go", "slide"), ("wait",), ("wait",)], 2),
                        ([("go", "arch"), ("lay", "axe"), ("go", "arch"), ("lift", "axe"), ("go", "slide"),
                          ("wait",), ("go", "gate")], 4)):
            at = way.index(("go", "slide")) if at is None else at
            for kind in (list, tuple):
                with self.assertRaises(NoBack) as caught:
                    way_back(hall, stand, kind(way))
                self.assertEqual(caught.exception.at, at)
        # Two of them: the first one.
        hall = Hall(["a", "b"], [("d", "a", "b", "on", []), ("e", "b", "a", "on", [])], [], [("w", 1, 0)])
        with self.assertRaises(NoBack) as caught:
            way_back(hall, (0, ("a",), ()), [("wait",), ("go", "d"), ("go", "e"), ("go", "d")])
        self.assertEqual(caught.exception.at, 1)

    def test_nothing_is_changed(self):
        hall = make_hall()
        way = [("go", "gate"), ("lay", "axe")]
        way_back(hall, STAND, way)
        self.assertEqual(way, [("go", "gate"), ("lay", "axe")])
        self.assertEqual(hall, make_hall())

    def test_ways_of_the_dice(self):
        dice = random.Random(18)
        backs = 0
        for hall, stand in some_pairs(400, 18):
            way, stands = [], [stand]
            for _ in range(dice.randrange(12)):
                way.append(dice.choice(deeds(hall, stands[-1])))
                stands.append(done(hall, stands[-1], way[-1]))
            alone = [at for at, deed in enumerate(way) if deed[0] == "go" and hall.door(deed[1])[2] == "on"]
            if alone:
                with self.assertRaises(NoBack) as caught:
                    way_back(hall, stand, way)
                self.assertEqual(caught.exception.at, alone[0])
            else:
                self.check(hall, stand, way)
                backs += 1
        self.assertGreater(backs, 100)


if __name__ == "__main__":
    unittest.main()
