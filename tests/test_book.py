"""Promises 45 and 46: the book, its acts, moments and plans."""

import unittest
from random import Random

from manyspots import corridors, full_hall
from remade import all_from, parts_of, remade
from samples import ANYTHING, STAND, all_deeds, make_hall, some_hall, some_stand
from slowplays import some_goal
from weighdoors.book import Book
from weighdoors.changes import hefted, opened, rowed, walled
from weighdoors.deeds import deeds, done
from weighdoors.errors import NoDeed, NoMoment, NoMore, NoName, NoPlan, NoWay, TooMany
from weighdoors.goals import met
from weighdoors.halls import Hall
from weighdoors.mending import mended
from weighdoors.plays import Play
from weighdoors.stands import open_doors
from weighdoors.values import value
from weighdoors.ways import played

GATE, WAIT = ("go", "gate"), ("wait",)


class ActsTest(unittest.TestCase):
    def test_a_new_book(self):
        book = Book(hall=make_hall(), stand=STAND)
        self.assertEqual(book.acts(), [])
        self.assertEqual(book.hall_at(), make_hall())
        self.assertEqual(book.stand_at(), STAND)
        self.assertEqual(book.swung(), ([], []))

    def test_each_kind_of_act(self):
        book = Book(make_hall(), STAND)
        stand = done(make_hall(), STAND, GATE)
        for ask, act in ((lambda: book.do(deed=GATE), ("do", GATE)),
                         (lambda: book.set_heft(name="ball", heft=5), ("heft", "ball", 5)),
                         (lambda: book.set_heft("ann", 0), ("heft", "ann", 0)),
                         (lambda: book.set_rows(door="gate", rows=[("yard", 0, None), ("cave", 3, 9)]),
                          ("rows", "gate", (("cave", 3, 9), ("yard", 0, None)))),
                         (lambda: book.set_rows("arch", ()), ("rows", "arch", ())),
                         (lambda: book.wall(door="slide"), ("wall", "slide")),
                         (lambda: book.open_up(door="trap"), ("open", "trap")),
                         (lambda: book.do(WAIT), ("do", WAIT))):
            before = book.acts()
            self.assertIsNone(ask())
            self.assertEqual(book.acts(), before + [act])
            self.assertEqual({type(one) for one in book.acts()}, {tuple})
        hall = opened(walled(rowed(hefted(hefted(make_hall(), "ball", 5), "ann", 0), "gate",
                                   [("yard", 0, None), ("cave", 3, 9)]), "slide"), "trap")
        self.assertEqual(book.hall_at(), hall)
        # A change takes no turn.
        self.assertEqual(book.stand_at(), done(hall, stand, WAIT))
        self.assertIs(type(book.acts()[3][2]), tuple)

    def test_moments(self):
        book = Book(make_hall(), STAND)
        book.do(GATE)
        book.set_heft("ball", 0)
        book.wall("arch")
        book.do(WAIT)
        halls = [make_hall(), make_hall(), hefted(make_hall(), "ball", 0)]
        halls += [walled(halls[2], "arch")] * 2
        behind = done(make_hall(), STAND, GATE)
        stands = [STAND, behind, behind, behind, done(make_hall(), behind, WAIT)]
        for moment, (hall, stand) in enumerate(zip(halls, stands)):
            self.assertEqual(book.hall_at(moment=moment), hall)
            self.assertEqual(book.stand_at(moment=moment), stand)
        for ask, told in ((book.hall_at, halls[-1]), (book.stand_at, stands[-1])):
            self.assertEqual(ask(), told)
            self.assertEqual(ask(moment=None), told)
            self.assertRaises(TypeError, ask, 1)

    def test_no_moment(self):
        book = Book(make_hall(), STAND)
        for many in range(3):
            for thing in ANYTHING + [many + 1, many + 2, -1, -many - 1, True, False, "0", 10 ** 30, (0,), [many]]:
                if thing is None or isinstance(thing, int) and not isinstance(thing, bool) and 0 <= thing <= many:
                    continue
                for ask in (book.hall_at, book.stand_at):
                    with self.assertRaises(NoMoment) as caught:
                        ask(moment=thing)
                    self.assertIs(caught.exception.asked, thing)
            book.do(WAIT)

    def test_no_moment_that_was_taken_back(self):
        book = Book(make_hall(), STAND)
        book.do(WAIT)
        book.do(WAIT)
        book.back()
        for ask in (book.hall_at, book.stand_at):
            ask(moment=1)
            with self.assertRaises(NoMoment) as caught:
                ask(moment=2)
            self.assertEqual(caught.exception.asked, 2)
        book.on()
        self.assertEqual(book.stand_at(moment=2), STAND)

    def test_what_is_told_and_handed_in_changed_behind(self):
        hall, rows = make_hall(), [("cave", 1, None)]
        book = Book(hall, STAND)
        book.set_rows("gate", rows)
        rows.append(("yard", 9, 9))
        rows[0] = ("cave", 7, 7)
        self.assertEqual(book.acts(), [("rows", "gate", (("cave", 1, None),))])
        self.assertEqual(book.hall_at().door("gate")[3], (("cave", 1, None),))
        book.acts().clear()
        for some in book.swung():
            some.append("gate")
        self.assertEqual(len(book.acts()), 1)
        self.assertIsNot(book.hall_at(), book.hall_at())
        self.assertIsNot(book.hall_at(moment=0), hall)
        self.assertEqual(hall, make_hall())
        self.assertEqual(book.swung(), book.swung())


class RefusedTest(unittest.TestCase):
    def book(self):
        """A book of two acts, one of which was taken back."""
        book = Book(make_hall(), STAND)
        book.do(GATE)
        book.keep((("at", "ann", "yard"),))
        book.set_heft("ball", 5)
        book.back()
        return book

    def check(self, refusal, field, ask):
        """What is refused changes nothing, not even what was taken back."""
        book = self.book()
        with self.assertRaises(refusal) as caught:
            ask(book)
        if field is not None:
            name, told = field
            self.assertEqual(getattr(caught.exception, name), told)
        self.assertEqual(book, self.book())
        self.assertEqual(book.rest(), self.book().rest())
        self.assertEqual((book.hall_at(), book.stand_at()), (self.book().hall_at(), self.book().stand_at()))
        self.assertEqual(book.on(), ("heft", "ball", 5))
        self.assertEqual(book.hall_at().heft("ball"), 5)

    def test_no_deed(self):
        for deed, why in ((("go", "nosuch"), "door"), (("go", "arch"), "room"), (("go", "trap"), "shut"),
                          (("lift", "nosuch"), "stone"), (("lift", "axe"), "far"), (("lay", "ball"), "held"),
                          (["wait"], "form"), ("wait", "form"), (("go", "Gate"), "form")):
            self.check(NoDeed, ("why", why), lambda book: book.do(deed))
        for thing in ANYTHING:
            self.check(NoDeed, ("why", "form"), lambda book: book.do(thing))

    def test_no_name(self):
        for thing in ANYTHING + ["nosuch", "cave", "gate", ("ball",)]:
            self.check(NoName, ("asked", thing), lambda book: book.set_heft(thing, 1))
        for thing in ANYTHING + ["nosuch", "cave", "ball", ["gate"]]:
            self.check(NoName, ("asked", thing), lambda book: book.set_rows(thing, [("cave", 1, None)]))
            self.check(NoName, ("asked", thing), lambda book: book.set_rows(thing, ()))
            self.check(NoName, ("asked", thing), lambda book: book.wall(thing))
            self.check(NoName, ("asked", thing), lambda book: book.open_up(thing))

    def test_a_walled_door_is_no_more_there(self):
        book = Book(make_hall(), STAND)
        book.wall("gate")
        for ask in (book.wall, book.open_up, lambda door: book.set_rows(door, ())):
            self.assertRaises(NoName, ask, "gate")
        with self.assertRaises(NoDeed) as caught:
            book.do(GATE)
        self.assertEqual(caught.exception.why, "door")
        book.back()
        book.do(GATE)
        self.assertEqual(book.acts(), [("do", GATE)])


class BackAndOnTest(unittest.TestCase):
    def no_more(self, ask, word):
        with self.assertRaises(NoMore) as caught:
            ask()
        self.assertEqual(caught.exception.word, word)

    def test_many_in_a_row(self):
        book = Book(make_hall(), STAND)
        self.no_more(book.back, "back")
        self.no_more(book.on, "on")
        acts = [("do", GATE), ("heft", "axe", 9), ("wall", "arch"), ("do", WAIT), ("open", "trap")]
        book.do(GATE)
        book.set_heft("axe", 9)
        book.wall("arch")
        book.do(WAIT)
        book.open_up("trap")
        moments = [(book.hall_at(moment=at), book.stand_at(moment=at)) for at in range(6)]
        self.no_more(book.on, "on")
        for at in reversed(range(5)):
            told = book.back()
            self.assertEqual((told, type(told)), (acts[at], tuple))
            self.assertEqual(book.acts(), acts[:at])
            self.assertEqual((book.hall_at(), book.stand_at()), moments[at])
        self.no_more(book.back, "back")
        for at in range(5):
            self.assertEqual(book.on(), acts[at])
            self.assertEqual(book.acts(), acts[:at + 1])
            self.assertEqual((book.hall_at(), book.stand_at()), moments[at + 1])
        self.no_more(book.on, "on")

    def test_a_new_act_lets_go_what_was_taken_back(self):
        for act in (lambda book: book.do(WAIT), lambda book: book.set_heft("axe", 3), lambda book: book.wall("arch"),
                    lambda book: book.set_rows("gate", ()), lambda book: book.open_up("trap")):
            book = Book(make_hall(), STAND)
            book.do(GATE)
            book.do(WAIT)
            book.back()
            book.back()
            act(book)
            self.no_more(book.on, "on")
            self.assertEqual(len(book.acts()), 1)
            book.back()
            self.no_more(book.back, "back")
            book.on()
            self.no_more(book.on, "on")

    def test_the_same_act_again_lets_go_all_the_same(self):
        book = Book(make_hall(), STAND)
        book.do(WAIT)
        book.do(WAIT)
        book.back()
        book.back()
        book.do(WAIT)
        self.no_more(book.on, "on")


class SwungTest(unittest.TestCase):
    """The floor of a opens d by what lies there, and shuts e; f stands open always."""

    HALL = Hall(["a", "b"], [("d", "a", "b", "both", [("a", 3, None)]), ("e", "a", "b", "both", [("a", 0, 2)]),
                             ("f", "a", "b", "both", [])], [("s", 2)], [("w", 1, 1)])
    STAND = (0, ("b",), ("a",))

    def test_behind_each_kind_of_act(self):
        book = Book(self.HALL, self.STAND)
        for ask, swung in ((lambda: book.do(("go", "f")), (["d"], ["e"])), (lambda: book.do(WAIT), ([], [])),
                           (lambda: book.set_heft("s", 1), (["e"], ["d"])), (lambda: book.set_heft("w", 2), (["d"], ["e"])),
                           (lambda: book.set_rows("e", [("a", 3, 3)]), (["e"], [])),
                           (lambda: book.set_rows("d", [("b", 1, None)]), ([], ["d"])),
                           (lambda: book.open_up("d"), (["d"], [])), (lambda: book.open_up("f"), ([], [])),
                           (lambda: book.wall("f"), ([], ["f"])), (lambda: book.do(("go", "d")), ([], ["e"])),
                           (lambda: book.wall("e"), ([], []))):
            ask()
            told = book.swung()
            self.assertEqual(told, swung)
            self.assertEqual((type(told), type(told[0]), type(told[1])), (tuple, list, list))

    def test_behind_back_and_on(self):
        book = Book(self.HALL, self.STAND)
        told = [([], [])]
        for act in (lambda: book.do(("go", "f")), lambda: book.set_heft("s", 0), lambda: book.wall("f")):
            act()
            told.append(book.swung())
        self.assertEqual(told, [([], []), (["d"], ["e"]), (["e"], ["d"]), ([], ["f"])])
        for at in (2, 1, 0):
            book.back()
            self.assertEqual(book.swung(), told[at])
        for at in (1, 2, 3):
            book.on()
            self.assertEqual(book.swung(), told[at])


class EqualTest(unittest.TestCase):
    def test_books(self):
        one, other = Book(make_hall(), STAND), Book(make_hall(), STAND)
        self.assertTrue(one == other)
        one.do(GATE)
        self.assertFalse(one == other)
        other.do(WAIT)
        self.assertTrue(one != other)
        other.back()
        other.do(GATE)
        self.assertTrue(one == other)
        # What was taken back and what is kept count for nothing.
        other.set_heft("axe", 1)
        self.assertFalse(one == other)
        other.back()
        other.keep(())
        self.assertTrue(one == other)
        self.assertTrue(other == one)

    def test_first_halls_and_first_stands(self):
        self.assertFalse(Book(make_hall(), STAND) == Book(make_hall(), (0, *STAND[1:])))
        self.assertFalse(Book(make_hall(), STAND) == Book(hefted(make_hall(), "axe", 4), STAND))
        one, other = Book(make_hall(), STAND), Book(hefted(make_hall(), "axe", 4), STAND)
        one.set_heft("axe", 4)
        other.set_heft("axe", 4)
        self.assertEqual((one.hall_at(), one.acts()), (other.hall_at(), other.acts()))
        self.assertFalse(one == other)
        # The same acts in another order.
        one, other = Book(make_hall(), STAND), Book(make_hall(), STAND)
        one.set_heft("axe", 4), one.wall("arch")
        other.wall("arch"), other.set_heft("axe", 4)
        self.assertEqual(one.hall_at(), other.hall_at())
        self.assertFalse(one == other)

    def test_a_thing_of_another_kind(self):
        book = Book(make_hall(), STAND)
        for thing in ANYTHING + [make_hall(), STAND, Play(make_hall(), ()), [], book.acts()]:
            self.assertIs(book == thing, False)
            self.assertIs(thing == book, False)
            self.assertIs(book != thing, True)


LINE = Hall(["a", "b", "c"], [("d", "a", "b", "both", []), ("e", "b", "c", "both", [])], [("s", 1)], [("w", 1, 1)])
A = (0, ("a",), ("a",))
D, E = ("go", "d"), ("go", "e")
GOAL = (("at", "w", "c"),)


class PlanTest(unittest.TestCase):
    def test_keep_tells_the_value(self):
        book = Book(LINE, A)
        self.assertEqual(book.keep(GOAL), 2)
        self.assertEqual((book.rest(), type(book.rest())), ((D, E), tuple))
        self.assertIs(book.holds(), True)
        self.assertEqual(book.keep(goal=GOAL, prices=(7, 0, 0, 0), most=30), 14)
        self.assertEqual(book.keep((("lies", "s", "b"),), prices=(1, 5, 9, 0)), 15)
        self.assertEqual(book.rest(), (("lift", "s"), D, ("lay", "s")))
        self.assertEqual(book.keep(()), 0)
        self.assertEqual((book.rest(), book.holds()), ((), True))
        self.assertRaises(TypeError, book.keep, GOAL, (1, 1, 1, 1))

    def test_none_and_what_was_kept_is(self):
        book = Book(LINE, A)
        never = (("open", "nosuch"),)
        self.assertIsNone(book.keep(never))
        self.no_plan(book)
        book.keep(GOAL)
        self.assertIsNone(book.keep(never))
        self.assertEqual(book.rest(), (D, E))
        self.assertIs(book.holds(), True)

    def no_plan(self, book):
        for ask in (book.rest, book.holds, book.mend):
            self.assertRaises(NoPlan, ask)
        self.assertRaises(NoPlan, book.mend, most=1)

    def test_no_plan(self):
        book = Book(LINE, A)
        self.no_plan(book)
        book.do(D)
        book.set_heft("s", 2)
        self.no_plan(book)
        book.keep(GOAL)
        book.back()
        self.no_plan(book)
        book.on()
        self.assertEqual(book.rest(), (E,))

    def test_a_refusal_leaves_the_plan(self):
        many = len(all_from(LINE, A))
        book = Book(LINE, A)
        with self.assertRaises(TooMany) as caught:
            book.keep(GOAL, most=many - 1)
        self.assertEqual(caught.exception.most, many - 1)
        self.no_plan(book)
        self.assertEqual(book.keep(GOAL, most=many), 2)
        self.assertRaises(TooMany, book.keep, (), most=many - 1)
        self.assertEqual(book.rest(), (D, E))
        book.do(WAIT)
        # Of the mending play: it is asked where the plan holds, too.
        self.assertEqual(book.rest(), (E,))
        self.assertRaises(TooMany, book.mend, most=3)
        self.assertEqual(book.rest(), (E,))
        self.assertEqual(book.mend(most=2000), 2)
        self.assertEqual(book.rest(), (D, E))
        self.assertRaises(TooMany, book.mend, most=3)
        self.assertEqual(book.rest(), (D, E))
        self.assertRaises(TypeError, book.mend, 2000)

    def test_the_rest_behind_deeds(self):
        book = Book(LINE, A)
        book.keep(GOAL)
        book.do(D)
        self.assertEqual((book.rest(), book.holds()), ((E,), True))
        book.do(E)
        self.assertEqual((book.rest(), book.holds()), ((), True))
        # More deeds than the rest has.
        book.do(E)
        self.assertEqual((book.rest(), book.holds()), ((), False))
        book.do(WAIT)
        self.assertEqual((book.rest(), book.holds()), ((), False))
        book.do(E)
        self.assertEqual((book.rest(), book.holds()), ((), True))

    def test_other_deeds_take_the_first_one_away_too(self):
        book = Book(LINE, A)
        book.keep(GOAL)
        book.do(WAIT)
        self.assertEqual((book.rest(), book.holds()), ((E,), False))
        book.do(("lift", "s"))
        self.assertEqual((book.rest(), book.holds()), ((), False))

    def test_a_change_takes_none(self):
        book = Book(LINE, A)
        book.keep(GOAL)
        for change in (lambda: book.set_heft("s", 5), lambda: book.open_up("d"), lambda: book.set_heft("w", 0),
                       lambda: book.set_rows("e", [("a", 5, None)])):
            change()
            self.assertEqual((book.rest(), book.holds()), ((D, E), True))
        book.set_rows("e", [("a", 6, None)])
        self.assertEqual((book.rest(), book.holds()), ((D, E), False))
        book.open_up("e")
        self.assertIs(book.holds(), True)
        book.wall("d")
        self.assertEqual((book.rest(), book.holds()), ((D, E), False))

    def test_holds_where_the_goal_is_met_behind_the_rest(self):
        book = Book(LINE, A)
        book.keep((("open", "e"), ("at", "w", "b")))
        self.assertIs(book.holds(), True)
        book.wall("e")
        self.assertEqual((book.rest(), book.holds()), ((D,), False))
        self.assertIsNone(book.mend())
        self.assertEqual(book.rest(), (D,))

    def test_mend(self):
        book = Book(LINE, A)
        book.keep(GOAL)
        self.assertEqual(book.mend(), 0)
        self.assertEqual(book.rest(), (D, E))
        book.do(WAIT)
        # The rest is e alone: in its place d, and e behind it.
        self.assertEqual(book.mend(most=50), 2)
        self.assertEqual((book.rest(), book.holds()), ((D, E), True))
        self.assertEqual(book.mend(), 0)
        book.wall("e")
        self.assertIsNone(book.mend())
        self.assertEqual((book.rest(), book.holds()), ((D, E), False))

    def test_each_moment_has_its_own_plan(self):
        book = Book(LINE, A)
        book.do(WAIT)
        book.keep(GOAL)
        book.do(D)
        book.do(WAIT)
        self.assertEqual(book.rest(), ())
        book.mend()
        self.assertEqual(book.rest(), (E,))
        book.back()
        self.assertEqual(book.rest(), (E,))
        book.keep((("at", "w", "a"),))
        self.assertEqual(book.rest(), (D,))
        # The next moment's plan is what it was left with: mended behind the wait, for its own goal.
        book.on()
        self.assertEqual((book.rest(), book.holds()), ((E,), True))
        book.back()
        self.assertEqual((book.rest(), book.holds()), ((D,), True))
        book.back()
        self.assertEqual((book.rest(), book.holds()), ((D, E), True))
        book.back()
        self.no_plan(book)
        for rest in ((D, E), (D,), (E,)):
            book.on()
            self.assertEqual(book.rest(), rest)
        # A new act hands the present plan on, and lets the taken back ones go.
        book.back()
        book.set_heft("s", 7)
        self.assertEqual(book.rest(), (D,))
        book.do(E)
        self.assertEqual(book.rest(), ())
        self.assertEqual(book.mend(), 2)
        self.assertEqual(book.rest(), (E, D))

    def test_told_ways_and_prices_of_the_present_hall(self):
        book = Book(LINE, A)
        book.set_rows("e", [("b", 1, None)])
        self.assertEqual(book.keep(GOAL), 4)
        self.assertEqual(book.rest(), (("lift", "s"), D, ("lay", "s"), E))
        self.assertEqual(book.keep(GOAL, prices=(0, 3, 4, 0)), 7)


class History:
    """A book told by its words: all moments listed, those taken back, too."""

    def __init__(self, hall, stand):
        self.rows = [[hall, stand, None, None]]
        self.now = 0

    def act(self, act):
        hall, stand, _, plan = self.rows[self.now]
        word, name = act[:2]
        if word == "do":
            stand = done(hall, stand, name)
            plan = plan and (plan[0], plan[1][1:])
        elif word == "heft":
            hall = hefted(hall, name, act[2])
        elif word == "rows":
            hall = rowed(hall, name, act[2])
        else:
            hall = (walled if word == "wall" else opened)(hall, name)
        self.rows[self.now + 1:] = [[hall, stand, act, plan]]
        self.now += 1


class DiceTest(unittest.TestCase):
    def act(self, book, history, dice):
        """Some act, handed to both; told is its word."""
        hall = history.rows[history.now][0]
        word = dice.choice(["do"] * 6 + ["heft", "rows", "wall", "open"])
        if word == "do":
            deed = dice.choice(deeds(hall, history.rows[history.now][1]))
            book.do(deed)
            history.act(("do", deed))
        elif word == "heft":
            name, heft = dice.choice(hall.stones() + hall.walkers()), dice.randint(0, 5)
            book.set_heft(name, heft)
            history.act(("heft", name, heft))
        elif hall.doors():
            door = dice.choice(hall.doors())
            rows = tuple((room, dice.randint(0, 2), None) for room in hall.rooms() if dice.random() < 0.5)
            {"rows": lambda: book.set_rows(door, rows[::-1]), "wall": lambda: book.wall(door),
             "open": lambda: book.open_up(door)}[word]()
            history.act(("rows", door, rows) if word == "rows" else (word, door))

    def plan(self, book, history, dice):
        """Keep or mend a plan, beside what was told before."""
        hall, stand, _, plan = history.rows[history.now]
        if len(all_from(hall, stand)) > 60:
            return
        if plan is None or dice.random() < 0.5:
            goal = some_goal(hall, some_stand(hall, dice), dice)
            price = book.keep(goal)
            self.assertEqual(price, value(Play(hall, goal), stand))
        else:
            goal = plan[0]
            told = mended(hall, stand, goal, plan[1])
            price = book.mend()
            self.assertEqual(price, None if told is None else told[0])
        if price is not None:
            history.rows[history.now][3] = (goal, book.rest())
            self.assertIs(book.holds(), True)

    def check(self, book, history):
        hall, stand, _, plan = history.rows[history.now]
        self.assertEqual((book.hall_at(), book.stand_at()), (hall, stand))
        self.assertEqual(book.acts(), [row[2] for row in history.rows[1:history.now + 1]])
        if plan is None:
            self.assertRaises(NoPlan, book.rest)
        else:
            self.assertEqual(book.rest(), plan[1])
            try:
                holds = met(hall, played(hall, stand, plan[1])[-1], plan[0])
            except NoWay:
                holds = False
            self.assertIs(book.holds(), holds)
        swung = ([], [])
        if history.now:
            ahead, behind = [open_doors(*row[:2]) for row in history.rows[history.now - 1:history.now + 1]]
            swung = sorted(set(behind) - set(ahead)), sorted(set(ahead) - set(behind))
        self.assertEqual(book.swung(), swung)

    def test_beside_a_history_of_all_moments(self):
        dice = Random(160)
        for _ in range(60):
            hall = some_hall(dice)
            stand = some_stand(hall, dice)
            book, history = Book(hall, stand), History(hall, stand)
            for _ in range(25):
                word = dice.choice(["act", "act", "act", "plan", "back", "back", "on"])
                if word == "act":
                    self.act(book, history, dice)
                elif word == "plan":
                    self.plan(book, history, dice)
                elif word == "back" and history.now:
                    self.assertEqual(book.back(), history.rows[history.now][2])
                    history.now -= 1
                elif word == "on" and history.now + 1 < len(history.rows):
                    history.now += 1
                    self.assertEqual(book.on(), history.rows[history.now][2])
                self.check(book, history)
            for moment in range(history.now + 1):
                self.assertEqual((book.hall_at(moment=moment), book.stand_at(moment=moment)),
                                 tuple(history.rows[moment][:2]))
            again = Book(hall, stand)
            for row in history.rows[1:history.now + 1]:
                ask = {"do": again.do, "heft": again.set_heft, "rows": again.set_rows, "wall": again.wall,
                       "open": again.open_up}
                ask[row[2][0]](*row[2][1:])
            self.assertTrue(again == book)

    def test_books_asked_by_turns(self):
        dice = Random(161)
        pairs = []
        for _ in range(4):
            hall = some_hall(dice)
            stand = some_stand(hall, dice)
            pairs += [(Book(hall, stand), History(hall, stand)), (Book(hall, stand), History(hall, stand))]
        for _ in range(25):
            for book, history in pairs:
                self.act(book, history, dice)
            for book, history in pairs:
                self.check(book, history)


class GreaterHallsTest(unittest.TestCase):
    def test_a_plan_gone_through(self):
        hall, stand, goal = full_hall()
        book = Book(hall, stand)
        self.assertEqual(book.keep(goal, most=5000), 50)
        for deed in book.rest():
            self.assertEqual(book.rest()[0], deed)
            book.do(deed)
        self.assertEqual((book.rest(), book.holds()), ((), True))
        self.assertEqual(len(book.acts()), 50)
        for _ in range(50):
            book.back()
        self.assertEqual(book.stand_at(), stand)
        # The stone that ann fetches is too light now.
        book.set_heft("weight", 4)
        self.assertIs(book.holds(), False)

    def test_the_default_of_two_thousand(self):
        hall, stand = corridors(7, 4, 4, 3, 1, 1)
        book = Book(hall, stand)
        with self.assertRaises(TooMany) as caught:
            book.keep(())
        self.assertEqual(caught.exception.most, 2000)
        self.assertEqual(book.keep((), most=2016), 0)
        with self.assertRaises(TooMany) as caught:
            book.mend()
        self.assertEqual(caught.exception.most, 2000)
        self.assertEqual(book.mend(most=2017), 0)

    def test_changed_halls_are_kept_apart(self):
        parts = parts_of(make_hall())
        book = Book(remade(make_hall(), doors=parts["doors"][::-1]), STAND)
        for door in book.hall_at().doors():
            book.wall(door)
        self.assertEqual(book.hall_at().doors(), [])
        self.assertEqual(book.hall_at(moment=0).doors(), make_hall().doors())
        self.assertEqual(all_deeds(book.hall_at())[-1], WAIT)


if __name__ == "__main__":
    unittest.main()
