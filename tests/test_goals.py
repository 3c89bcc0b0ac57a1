"""Promise 20: goals."""

import unittest
from random import Random

from samples import ANYTHING, STAND, great_hall, make_hall, some_pairs
from slowplays import slow_met, some_goal
from weighdoors.errors import NoGoal
from weighdoors.goals import met, need_goal
from weighdoors.halls import Hall

WISHES = [
    ("at", "ann", "cave"), ("at", "bob", "tower"), ("lies", "ball", "yard"), ("lies", "axe", "cave"),
    ("held", "axe", "ann"), ("held", "ball", "bob"), ("open", "gate"), ("open", "nosuch"), ("open", "cave"),
    ("open", "ball"), ("open", "ann"), ("bears", "cave", 0), ("bears", "yard", 9999999), ("bears", "tower", 12),
]

NO_WISHES = [
    # Words.
    ("At", "ann", "cave"), ("is", "ann", "cave"), ("", "ann", "cave"), (None, "ann", "cave"), (["at"], "ann", "cave"),
    ("open", "gate", "gate"), ("at", "ann"), ("lies", "ball"), ("held", "axe"), ("bears", "cave"), ("open",), (),
    ("at",), ("at", "ann", "cave", "cave"), ("bears", "cave", 1, 2), ("bears", "cave", 1, None), ("wait",),
    ("go", "gate"),
    # Names of another sort.
    ("at", "axe", "cave"), ("at", "ann", "gate"), ("at", "ann", "bob"), ("at", "cave", "ann"), ("at", "nosuch", "cave"),
    ("at", "ann", "nosuch"), ("at", None, "cave"), ("at", "ann", []), ("at", ["ann"], "cave"), ("at", "ann", ("cave",)),
    ("lies", "ann", "cave"), ("lies", "ball", "ann"), ("lies", "ball", "gate"), ("lies", "nosuch", "cave"),
    ("lies", {}, "cave"), ("lies", "ball", 1), ("held", "axe", "cave"), ("held", "ann", "bob"), ("held", "axe", "ball"),
    ("held", "axe", "nosuch"), ("held", "nosuch", "ann"), ("held", "axe", None), ("held", True, "ann"),
    ("bears", "ann", 1), ("bears", "ball", 1), ("bears", "gate", 1), ("bears", "nosuch", 1), ("bears", None, 1),
    ("bears", ["cave"], 1),
    # What is no name at all.
    ("open", ""), ("open", "Gate"), ("open", "ninelette"), ("open", "a1"), ("open", "a b"), ("open", None),
    ("open", 1), ("open", ["gate"]), ("open", ("gate",)), ("open", "caf\u00e9"),
    # Numbers.
    ("bears", "cave", -1), ("bears", "cave", 10000000), ("bears", "cave", True), ("bears", "cave", False),
    ("bears", "cave", None), ("bears", "cave", "1"), ("bears", "cave", (1,)), ("bears", "cave", [1]),
    ("bears", "cave", 10 ** 30), ("bears", 1, "cave"),
    # Lists in the place of tuples.
    ["at", "ann", "cave"], ["open", "gate"], ["bears", "cave", 1], "at", "at ann cave",
]


class NeedGoalTest(unittest.TestCase):
    def refused(self, hall, thing, at):
        with self.assertRaises(NoGoal) as caught:
            need_goal(hall, thing)
        self.assertEqual(caught.exception.at, at)
        self.assertEqual(type(caught.exception.at), type(at))

    def test_each_wish(self):
        hall = make_hall()
        for wish in WISHES:
            self.assertIsNone(need_goal(hall, (wish,)))
            self.assertIsNone(need_goal(hall=hall, thing=(wish, wish)))
        self.assertIsNone(need_goal(hall, ()))
        self.assertIsNone(need_goal(hall, tuple(WISHES[:8])))
        self.assertIsNone(need_goal(hall, tuple(WISHES[-8:])))
        self.assertEqual(hall, make_hall())

    def test_the_first_that_is_no_wish(self):
        hall = make_hall()
        for thing in NO_WISHES + ANYTHING:
            self.refused(hall, (thing,), 0)
            self.refused(hall, (*WISHES[:3], thing), 3)
            self.refused(hall, (*WISHES[:7], thing), 7)
            self.refused(hall, (WISHES[0], thing, WISHES[1], None, ("at", "ann")), 1)

    def test_anything_in_a_wish(self):
        hall = make_hall()
        for thing in ANYTHING:
            for wish in WISHES:
                for at in range(len(wish)):
                    other = (*wish[:at], thing, *wish[at + 1:])
                    is_number = isinstance(thing, int) and not isinstance(thing, bool) and 0 <= thing <= 9999999
                    is_text = isinstance(thing, str) and thing in ("a", "nosuchname", "cave")
                    if wish[0] == "bears" and at == 2 and is_number:
                        self.assertIsNone(need_goal(hall, (other,)))
                    elif wish[0] == "open" and at == 1 and is_text and len(thing) < 9:
                        self.assertIsNone(need_goal(hall, (other,)))
                    else:
                        self.refused(hall, (other,), 0)

    def test_what_is_no_tuple_of_at_most_eight(self):
        hall = make_hall()
        for thing in ANYTHING + [list(WISHES[:2]), [], "", {}, None, 7]:
            if not isinstance(thing, tuple):
                self.refused(hall, thing, None)
        self.refused(hall, tuple(WISHES[:9]), None)
        self.refused(hall, (WISHES[0],) * 9, None)
        # Whatever it holds.
        self.refused(hall, (None,) * 9, None)
        self.refused(hall, (WISHES[0], None) * 5, None)
        self.refused(hall, [None], None)

    def test_bounds(self):
        hall = great_hall()
        for least in (0, 9999999):
            self.assertIsNone(need_goal(hall, (("bears", "raa", least),) * 8))
        self.refused(hall, (("bears", "raa", 9999999), ("bears", "raa", 10000000)), 1)


class MetTest(unittest.TestCase):
    def test_the_empty_goal_is_met_at_once(self):
        for hall, stand in some_pairs(20, 20):
            self.assertIs(met(hall, stand, ()), True)

    def is_met(self, wishes, is_met, stand=STAND):
        for wish in wishes:
            self.assertIs(met(make_hall(), stand, (wish,)), is_met, wish)

    def test_each_word(self):
        # Bob in the cave with the axe, ann in the yard, the ball in the cave.
        self.is_met([("at", "bob", "cave"), ("at", "ann", "yard")], True)
        self.is_met([("at", "bob", "yard"), ("at", "ann", "cave"), ("at", "ann", "tower")], False)
        self.is_met([("lies", "ball", "cave")], True)
        self.is_met([("lies", "ball", "yard"), ("lies", "ball", "tower")], False)
        self.is_met([("held", "axe", "bob")], True)
        self.is_met([("held", "axe", "ann"), ("held", "ball", "bob"), ("held", "ball", "ann")], False)
        self.is_met([("open", "gate"), ("open", "arch"), ("open", "slide")], True)
        self.is_met([("open", "trap")], False)
        self.is_met([("open", "trap")], True, (0, ("yard", "yard"), ("yard", "tower")))
        self.is_met([("open", "gate")], False, (0, ("yard", "yard"), ("yard", "tower")))

    def test_a_stone_that_is_carried_lies_nowhere(self):
        self.is_met([("lies", "axe", room) for room in ("cave", "yard", "tower")], False)

    def test_names_that_the_hall_has_for_no_door(self):
        self.is_met([("open", name) for name in ("nosuch", "cave", "ball", "axe", "ann", "bob", "a")], False)

    def test_as_all_stand(self):
        # The axe that bob carries weighs: by it the cave bears three.
        hall = Hall(["a", "b"], [("d", "a", "b", "both", [("a", 3, 3)])], [("s", 3)], [("w", 0, 1)])
        self.assertIs(met(hall, (0, ("a",), ("w",)), (("open", "d"),)), True)
        self.assertIs(met(hall, (0, ("b",), ("w",)), (("open", "d"),)), False)

    def test_just_so_much_and_one_less(self):
        self.is_met([("bears", "cave", 0), ("bears", "cave", 12), ("bears", "yard", 7), ("bears", "tower", 0)], True)
        self.is_met([("bears", "cave", 13), ("bears", "yard", 8), ("bears", "tower", 1)], False)
        self.is_met([("bears", "cave", 9999999)], False)
        hall = great_hall()
        self.assertIs(met(hall, (0, ("raa",) * 6, ("raa",) * 12), (("bears", "raa", 9999999),)), True)

    def test_all_wishes(self):
        goal = (("at", "bob", "cave"), ("held", "axe", "bob"), ("bears", "cave", 12), ("open", "gate"))
        self.assertIs(met(hall=make_hall(), stand=STAND, goal=goal), True)
        for at in range(5):
            for wish in (("at", "ann", "cave"), ("open", "nosuch"), ("bears", "tower", 1), ("lies", "axe", "cave")):
                self.assertIs(met(make_hall(), STAND, goal[:at] + (wish,) + goal[at:]), False)

    def test_beside_the_slow_model(self):
        dice = Random(21)
        told = []
        for hall, stand in some_pairs(600, 22):
            goal = some_goal(hall, stand, dice)
            need_goal(hall, goal)
            told.append(met(hall, stand, goal))
            self.assertIs(told[-1], slow_met(hall, stand, goal))
        self.assertGreater(told.count(True), 100)
        self.assertGreater(told.count(False), 100)


if __name__ == "__main__":
    unittest.main()
