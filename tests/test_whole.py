"""Promises 2 to 4 over the whole program: what its parts tell of one another, and what changes nothing."""

import unittest
from random import Random

from manyspots import corridors, full_hall
from remade import all_from, parts_of, remade, rising, set_free, small_cases, star_hall, twos, with_hefts, without
from samples import STAND, make_hall
from slowplays import slow_moves
from weighdoors.backs import way_back
from weighdoors.book import Book
from weighdoors.changes import beside, beside_stand
from weighdoors.counting import count_ways, way_at
from weighdoors.deeds import deeds, swung
from weighdoors.doors import by_door, parting
from weighdoors.errors import TooMany
from weighdoors.fences import bar, fence, rounds
from weighdoors.folding import Folded, unfolded
from weighdoors.fronts import front
from weighdoors.halls import Hall
from weighdoors.halltexts import read_hall, show_hall
from weighdoors.hefts import is_rising, least_heft
from weighdoors.holding import holders
from weighdoors.journals import read_book, show_book
from weighdoors.losses import lost
from weighdoors.lots import covers, lot_holds, lot_paper, lots
from weighdoors.mending import Mending, mended
from weighdoors.papers import bars, forces
from weighdoors.paring import Paring, pared
from weighdoors.plays import Play, Rationed
from weighdoors.reaching import reach
from weighdoors.stands import open_doors
from weighdoors.turnings import is_turning, turned, turnings
from weighdoors.values import barring, cheapest, forcing, value
from weighdoors.ways import played


class FewestStepsTest(unittest.TestCase):
    def check(self, hall, stand, goal, most=2000):
        """All that tell the number of fewest steps tell the same; told is the number."""
        play = Play(hall, goal)
        number = value(play, stand, most=most)
        rows = front(hall, stand, goal, most=most)
        least = bar(hall, stand, goal)
        plan = mended(hall, stand, goal, (), most=most + 1)
        book = Book(hall, stand)
        kept = book.keep(goal, most=most)
        self.assertEqual(value(Folded(play, ()), stand, most=most), number)
        self.assertEqual(kept, number)
        if number is None:
            self.assertEqual((rows, plan, cheapest(play, stand, most=most)), ([], None, None))
            self.assertEqual(lost(hall, stand, goal, (), most=most), 0)
            return None
        self.assertEqual(rows[-1][1], number)
        self.assertEqual(plan[0], number)
        self.assertLessEqual(least, number)
        self.assertEqual([count_ways(play, stand, length) > 0 for length in range(number + 1)],
                         [False] * number + [True])
        self.assertTrue(play.met(played(hall, stand, way_at(play, stand, number, 0))[-1]))
        self.assertEqual((len(book.rest()), book.holds(), book.mend(most=10 ** 6)), (number, True, 0))
        self.assertIsNone(lost(hall, stand, goal, plan[1], most=most))
        # Enough layings change nothing, fewer ones may.
        self.assertEqual(value(Rationed(hall, goal, rows[-1][0]), (stand, rows[-1][0]), most=10 ** 6), number)
        return number

    def test_of_the_dices_halls(self):
        numbers = [self.check(case.hall, case.stand, case.goal) for case in small_cases(150, 180)]
        for number in (None, 0, 1, 2):
            self.assertGreater(numbers.count(number), 2, number)
        self.assertGreater(max(number or 0 for number in numbers), 2)

    def test_great_halls(self):
        hall, stand, goal = full_hall()
        self.assertEqual(self.check(hall, stand, goal, 5000), 50)
        hall, stand = still_hall()
        self.assertEqual(self.check(hall, stand, (("at", "wa", "rab"),)), 1)
        self.assertIsNone(self.check(hall, stand, (("at", "wa", "rdj"),)))


def still_hall():
    """A hall with 40 rooms, 60 doors, 12 stones and 6 walkers of which little can be come to: wa goes to and fro."""
    rooms = [f"r{letter}{other}" for letter in "abcd" for other in "abcdefghij"]
    doors = [("go", "raa", "rab", "both", [("raa", 0, 9999999)])]
    doors += [(f"d{letter}{other}", rooms[(7 * at) % 40], rooms[(7 * at + 1 + at % 9) % 40], ("both", "on")[at % 2],
               [(room, 9999999, None) for room in rooms[at % 37:at % 37 + 4]])
              for at, (letter, other) in enumerate([(one, two) for one in "abcdef" for two in "abcdefghij"][:59])]
    walkers = [(f"w{letter}", 1, 0) for letter in "abcdef"]
    stand = (0, ("raa",) + tuple(rooms[30:35]), tuple(rooms[20:32]))
    return Hall(rooms, doors, [(f"s{letter}", 2) for letter in "abcdefghijkl"], walkers), stand


class GreatHallsTest(unittest.TestCase):
    def test_each_function_of_a_great_hall(self):
        hall, stand = still_hall()
        self.assertEqual((len(hall), len(hall.doors()), len(hall.stones()), len(hall.walkers())), (40, 60, 12, 6))
        goal = (("at", "wa", "rab"),)
        many = len(all_from(hall, stand))
        self.assertEqual(many, 12)
        play = Play(hall, goal)
        self.assertEqual(read_hall(show_hall(hall)), hall)
        self.assertEqual([row[1:] for row in by_door(hall, stand, goal) if row[0] != "go"], [(1, 1)] * 59)
        self.assertEqual(by_door(hall, stand, goal)[-1], ("go", None, 1))
        self.assertIsNone(parting(hall, without(hall, hall.doors()[:59]), stand))
        self.assertEqual(parting(hall, without(hall, ["go"]), stand), (("go", "go"),))
        self.assertEqual(lots(hall, stand, goal, "walk"), ([("wa",)], [("wb", "wc", "wd", "we", "wf")]))
        self.assertEqual(lots(hall, stand, goal, "force"), ([("wa",)], [("wb", "wc", "wd", "we", "wf")]))
        other = rising(hall)
        self.assertIs(is_rising(other), True)
        self.assertEqual(least_heft(other, stand, goal, hall.stones())[:2], (0, (("go", "go"),)))
        self.assertEqual(least_heft(other, stand, (("bears", "rda", 9999999),), ["sk", "sl"])[:2], (9999998, ()))
        self.assertEqual(turned(turned(hall, {"raa": "go", "go": "raa"}), {"go": "raa", "raa": "go"}), hall)
        self.assertIs(is_turning(hall, twos(("sa", "sb"))), True)
        folded = Folded(play, [twos(("sa", "sb")), twos(("sb", "sc"))])
        self.assertEqual(value(folded, folded.least(stand)), 1)
        self.assertIs(bars(play, unfolded(folded, barring(folded, folded.least(stand)))), True)
        self.assertEqual(mended(hall, stand, goal, [("wait",)] * 60)[0], 1)
        self.assertEqual(pared(hall, stand, goal, [("go", "go")] + [("wait",)] * 60)[0], 1)
        self.assertIsNone(lost(hall, stand, goal, [("wait",)] * 60))
        book = Book(hall, stand)
        for deed in [("go", "go")] + [("wait",)] * 5:
            book.do(deed)
        book.set_rows("go", [("rdj", 1, None)])
        self.assertEqual(book.swung(), ([], ["go"]))
        self.assertTrue(read_book(show_book(book)) == book)


class OrdersTest(unittest.TestCase):
    def questions(self, hall, stand, goal):
        """What is asked of a hall, each a function without arguments."""
        play = Play(hall, goal)
        way = tuple(deed for deed, _, _ in slow_moves(hall, stand)[:1])
        book = Book(hall, stand)
        return [
            lambda: show_hall(hall), lambda: deeds(hall, stand), lambda: swung(hall, stand, way[0]),
            lambda: open_doors(hall, stand), lambda: reach(play, stand), lambda: value(play, stand),
            lambda: sorted(barring(play, stand), key=repr), lambda: count_ways(play, stand, 5), lambda: fence(hall, stand),
            lambda: front(hall, stand, goal), lambda: by_door(hall, stand, goal, most=10 ** 5),
            lambda: lots(hall, stand, goal, "wall"), lambda: lots(hall, stand, goal, "force"),
            lambda: least_heft(rising(hall), stand, goal, hall.stones() or ["x"], most=10 ** 5)[0] if hall.stones() else None,
            lambda: mended(hall, stand, goal, way), lambda: lost(hall, stand, goal, way), lambda: pared(hall, stand, (), way),
            lambda: value(Folded(play, [()]), stand), lambda: show_book(book),
            lambda: value(Mending(hall, goal, way), (stand, 0)), lambda: value(Paring(hall, goal, way), (stand, 0)),
        ]

    def test_orders_in_which_a_halls_parts_are_handed_in(self):
        dice = Random(181)
        for case in small_cases(25, 182, most=40):
            parts = parts_of(case.hall)
            doors = [(name, *(ends if way == "on" else ends[::-1]), way, dice.sample(rows, len(rows)))
                     for name, one, other, way, rows in parts["doors"] for ends in [(one, other)]]
            dice.shuffle(doors)
            other = Hall(rooms=tuple(parts["rooms"][::-1]), doors=tuple(doors), stones=parts["stones"][::-1],
                         walkers=tuple(parts["walkers"]))
            self.assertEqual(other, case.hall)
            for ask, again in zip(self.questions(case.hall, case.stand, case.goal),
                                  self.questions(other, case.stand, case.goal)):
                self.assertEqual(ask(), again())

    def test_asked_by_turns(self):
        dice = Random(183)
        cases = list(small_cases(8, 184, most=30))
        fresh = [[ask() for ask in self.questions(case.hall, case.stand, case.goal)] for case in cases]
        questions = [self.questions(case.hall, case.stand, case.goal) for case in cases]
        kept = [parts_of(case.hall) for case in cases]
        for _ in range(3):
            order = [(at, place) for at in range(len(cases)) for place in range(len(fresh[0]))]
            dice.shuffle(order)
            for at, place in order:
                told = questions[at][place]()
                self.assertEqual(told, fresh[at][place])
                # What is told is the asker's own.
                if isinstance(told, (list, dict)):
                    told.clear()
        self.assertEqual([parts_of(case.hall) for case in cases], kept)


class MostTest(unittest.TestCase):
    def asks(self, hall, stand):
        """Each function that seeks: how many can be come to, and the function that takes a most."""
        play = Play(hall, ())
        walkers, stones = hall.walkers(), hall.stones()
        many = len(all_from(hall, stand))
        widest = len(all_from(set_free(hall, hall.doors()), stand))
        freed = [len(all_from(set_free(hall, [door]), stand)) for door in hall.doors()]
        told = [(many, lambda most, ask=ask: ask(play, stand, most=most))
                for ask in (reach, value, barring, forcing, cheapest)]
        told += [(many, lambda most, word=word: lots(hall, stand, (), word, most=most)) for word in ("wall", "walk", "force")]
        told += [(many, lambda most, word=word: lot_paper(hall, stand, (), word, (), most=most)) for word in ("wall", "walk")]
        told += [
            (widest, lambda most: lots(hall, stand, (), "open", most=most)),
            (max(freed + [many]), lambda most: by_door(hall, stand, (), most=most)),
            (many, lambda most: parting(hall, without(hall, hall.doors()), stand, most=most)),
            (many, lambda most: front(hall, stand, (), most=most)),
            (many, lambda most: lost(hall, stand, (), (), most=most)),
            (many + 1, lambda most: mended(hall, stand, (), (), most=most)),
            (1, lambda most: pared(hall, stand, (), (), most=most)),
            (many, lambda most: Book(hall, stand).keep((), most=most)),
            (many + 1, lambda most: [book.mend(most=most) for book in [Book(hall, stand)] if book.keep(()) == 0]),
        ]
        if stones:
            light = rising(hall)
            top = max([row[1] for door in light.doors() for row in light.door(door)[3]], default=0)
            heavy = with_hefts(light, {stone: top for stone in stones})
            told.append((len(all_from(heavy, stand)), lambda most: least_heft(light, stand, (), stones, most=most)))
            told.append((len(all_from(light, stand)), lambda most: lots(light, stand, (), "weigh", most=most)))
        self.assertTrue(walkers)
        return told

    def test_at_the_number_itself_and_at_one_less(self):
        for case in small_cases(25, 185, most=40):
            if len(all_from(set_free(case.hall, case.hall.doors()), case.stand)) > 300:
                continue
            for many, ask in self.asks(case.hall, case.stand):
                ask(many)
                if many > 1:
                    with self.assertRaises(TooMany) as caught:
                        ask(many - 1)
                    self.assertEqual(caught.exception.most, many - 1)


class PromiseTest(unittest.TestCase):
    def test_rows_widened_and_doors_opened_take_no_way_away_and_walled_ones_give_none(self):
        dice = Random(186)
        for case in small_cases(40, 187, most=40):
            doors = [(*door[:4], [(room, max(0, least - dice.randint(0, 2)), None if most is None else most + dice.randint(0, 2))
                                  for room, least, most in door[4]]) for door in parts_of(case.hall)["doors"]]
            wide = remade(case.hall, doors=doors)
            self.assertIsNone(parting(case.hall, wide, case.stand))
            for door in case.hall.doors():
                self.assertIsNone(parting(case.hall, set_free(case.hall, [door]), case.stand))
                self.assertIsNone(parting(without(case.hall, [door]), case.hall, case.stand))

    def test_in_rising_halls_heavier_stones_and_walkers_take_none_away(self):
        dice = Random(188)
        for case in small_cases(60, 189, most=40):
            hall = rising(case.hall)
            heavy = remade(hall, stones=[(name, heft + dice.randint(0, 3)) for name, heft in parts_of(hall)["stones"]],
                           walkers=[(name, heft + dice.randint(0, 3), hands)
                                    for name, heft, hands in parts_of(hall)["walkers"]])
            if len(all_from(hall, case.stand)) <= 2000:
                self.assertIsNone(parting(hall, heavy, case.stand))

    def test_lots_cover_and_their_papers_hold(self):
        for case in small_cases(25, 190, most=30):
            for word in ("wall", "walk", "force"):
                names = case.hall.doors() if word == "wall" else case.hall.walkers()
                does, fails = lots(case.hall, case.stand, case.goal, word)
                self.assertIs(covers(names, does, fails), True)
                for lot in does + fails:
                    paper = lot_paper(case.hall, case.stand, case.goal, word, lot)
                    self.assertEqual(paper[0], "does" if lot in does else "not")
                    self.assertIs(lot_holds(case.hall, case.stand, case.goal, word, lot, paper), True)

    def test_each_way_can_be_undone_where_all_doors_go_both_ways(self):
        dice = Random(191)
        for case in small_cases(60, 192, most=60):
            hall = remade(case.hall, doors=[(*door[:3], "both", door[4]) for door in parts_of(case.hall)["doors"]])
            way, stand = [], case.stand
            for _ in range(8):
                deed, _, stand = dice.choice(slow_moves(hall, stand))
                way.append(deed)
            self.assertEqual(played(hall, stand, way_back(hall, case.stand, way))[-1][1:], case.stand[1:])
            if len(all_from(hall, case.stand)) <= 300:
                self.assertIsNone(lost(hall, case.stand, (("at", hall.walkers()[0], case.stand[1][0]),), way))

    def test_behind_no_way_of_a_book_does_anything_stand_outside_of_a_fence(self):
        hall = make_hall()
        book = Book(hall, STAND)
        fences = rounds(hall, STAND)
        dice = Random(193)
        for number in range(1, 30):
            book.do(dice.choice(deeds(hall, book.stand_at())))
            some = fences[min(number, len(fences) - 1)]
            for walker, room in zip(hall.walkers(), book.stand_at()[1]):
                self.assertIn(room, some[walker])

    def test_one_looker_for_the_papers_of_every_play(self):
        hall = star_hall()
        goal = (("lies", "sa", "rc"), ("lies", "sb", "rc"))
        stand = (0, ("mid",), ("ra", "rb"))
        play = Play(hall, goal)
        folded = Folded(play, turnings(hall, [twos(("ra", "rb"), ("da", "db"), ("sa", "sb"))]))
        plan = cheapest(play, stand)[1]
        for one, spot in ((play, stand), (Rationed(hall, goal, 2), (stand, 2)), (folded, folded.least(stand)),
                          (Mending(hall, goal, plan[2:]), (stand, 0)), (Paring(hall, goal, plan + plan[-1:]), (stand, 0)),
                          (Paring(hall, goal, plan), (stand, 0))):
            number = value(one, spot)
            paper, forced = barring(one, spot), forcing(one, spot)
            self.assertIs(bars(one, paper), True)
            self.assertIs(forces(one, forced), True)
            self.assertIn((spot, number), paper)
            if number is not None:
                self.assertEqual({row[0]: row[1] for row in forced}[spot], number)
                # One number more is let by by nobody, nor one less on the other paper.
                self.assertIs(bars(one, [(at, more + (at == spot)) if more is not None else (at, None)
                                         for at, more in paper]), False)
                self.assertIs(forces(one, [(at, less - (at == spot), rank) for at, less, rank in forced]), False)

    def test_halls_beside_one_another_in_one_book(self):
        one, other = make_hall(), star_hall()
        both = beside(one, other)
        stand = beside_stand(one, STAND, other, (0, ("mid",), ("ra", "rb")))
        book = Book(both, stand)
        goal = (("at", "ann", "cave"), ("lies", "sa", "mid"))
        prices = (1, 1, 1, 0)
        self.assertEqual(book.keep(goal, prices=prices, most=10 ** 5),
                         value(Play(one, goal[:1], prices=prices), STAND)
                         + value(Play(other, goal[1:], prices=prices), (0, ("mid",), ("ra", "rb"))))
        for deed in book.rest():
            book.do(deed)
        self.assertIs(book.holds(), True)
        self.assertTrue(read_book(show_book(book)) == book)

    def test_holders_behind_a_books_acts(self):
        book = Book(make_hall(), STAND)
        self.assertEqual(holders(rising(book.hall_at()), book.stand_at(), "gate"), [("ball",), ("bob",)])
        book.set_heft("ball", 0)
        self.assertEqual(holders(rising(book.hall_at()), book.stand_at(), "gate"), [("bob",)])

    def test_many_spots(self):
        hall, stand = corridors(10, 5, 5, 5)
        goal = (("at", "wa", "raj"), ("at", "wb", "rbe"))
        play = Play(hall, goal)
        number = value(play, stand, most=5000)
        self.assertEqual(number, 33)
        self.assertEqual(Book(hall, stand).keep(goal, most=5000), number)
        self.assertEqual(front(hall, stand, goal, most=5000), [(0, number)])
        self.assertEqual(value(Folded(play, [()]), stand, most=5000), number)
        self.assertIsNone(lost(hall, stand, goal, [("wait",)] * 40, most=5000))
        self.assertLessEqual(bar(hall, stand, goal), number)


if __name__ == "__main__":
    unittest.main()
