"""Halls, stands and odd things that several tests use, and a slow model to compare with."""

from itertools import combinations
from random import Random

from weighdoors.halls import Hall

# Things of every kind that "of anything" names.
ANYTHING = [
    None, True, False, 0, 1, -1, 10 ** 30, "", "a", "Gate", "nosuchname", "two words", "\u00e9", "\n",
    (), ("cave",), (None,), ([],), ({},), [], ["cave"], [[[]]], {}, {"cave": 1}, {"a": [{}]},
    ((((((((),),),),),),),), ("go",), ("wait", "wait"), (0, ("cave",), ()),
]


def make_hall():
    """A hall with a door of each sort; yard is bound to cave and tower."""
    return Hall(
        ["yard", "cave", "tower"],
        [
            ("gate", "yard", "cave", "both", [("yard", 0, 12), ("cave", 3, None)]),
            ("slide", "tower", "cave", "on", []),
            ("arch", "yard", "tower", "both", ()),
            ("trap", "cave", "yard", "on", [("tower", 4, 4)]),
        ],
        [("ball", 4), ("axe", 3)],
        [("bob", 5, 1), ("ann", 7, 2)],
    )


# Of make_hall.
TEXT = """room cave
room tower
room yard
door arch tower yard both
door gate cave yard both cave 3 - yard 0 12
door slide tower cave on
door trap cave yard on tower 4 4
stone axe 3
stone ball 4
walker bob 5 1
walker ann 7 2"""

# Of make_hall: bob in the cave with the axe, ann in the yard, the ball in the cave; it is ann's turn.
STAND = (1, ("cave", "yard"), ("bob", "cave"))


def great_hall():
    """A hall with as much of everything as a hall may have."""
    rooms = [f"r{letter}{other}" for letter in "abcd" for other in "abcdefghij"]
    rows = [(room, 0, None) for room in rooms[:2]] + [(rooms[2], 0, 9999999), (rooms[3], 9999999, 9999999)]
    doors = [(f"d{letter}{other}", rooms[0], rooms[1], "both", rows) for letter in "abcdef" for other in "abcdefghij"]
    stones = [(f"s{letter}", heft) for letter, heft in zip("abcdefghijkl", [0, 9999999] * 6)]
    walkers = [(f"w{letter}", heft, hands) for letter, heft, hands in zip("fedcba", [0, 9999999] * 3, [9, 0] * 3)]
    return Hall(rooms, doors, stones, walkers)


def some_hall(dice):
    """A small hall, told by the dice."""
    rooms = ["p", "q", "r"][:dice.randint(1, 3)]
    doors = []
    for name in ["da", "db", "dc", "dd"]:
        if len(rooms) > 1 and dice.random() < 0.9:
            rows = []
            for room in dice.sample(rooms, dice.randint(0, len(rooms))):
                least = dice.randint(0, 5)
                rows.append((room, least, dice.choice([None, None, least, least + dice.randint(0, 6)])))
            doors.append((name, *dice.sample(rooms, 2), dice.choice(["both", "both", "on"]), rows))
    stones = [(name, dice.randint(0, 4)) for name in ["sa", "sb", "sc"][:dice.randint(0, 3)]]
    walkers = [(name, dice.randint(0, 4), dice.randint(0, 2)) for name in ["wb", "wa", "wc"][:dice.randint(1, 3)]]
    dice.shuffle(doors)
    dice.shuffle(stones)
    return Hall(rooms, doors, stones, walkers)


def some_stand(hall, dice):
    """A stand of a hall, told by the dice."""
    walkers = hall.walkers()
    free = {walker: hall.hands(walker) for walker in walkers}
    places = []
    for _ in hall.stones():
        place = dice.choice(hall.rooms() + [walker for walker in walkers if free[walker]])
        if place in free:
            free[place] -= 1
        places.append(place)
    return dice.randrange(len(walkers)), tuple(dice.choice(hall.rooms()) for _ in walkers), tuple(places)


def some_pairs(many, seed):
    """So many pairs of a hall and a stand of it, always the same ones."""
    dice = Random(seed)
    for _ in range(many):
        hall = some_hall(dice)
        yield hall, some_stand(hall, dice)


def things_at(hall, stand):
    """Each walker and lying stone: (room, heft with what it carries)."""
    _, rooms, places = stand
    things = {walker: [room, hall.heft(walker)] for walker, room in zip(hall.walkers(), rooms)}
    for stone, place in zip(hall.stones(), places):
        if place in things:
            things[place][1] += hall.heft(stone)
        else:
            things[stone] = [place, hall.heft(stone)]
    return things


def met_by(rows, things):
    """Whether these things alone meet the rows."""
    for room, least, most in rows:
        weighs = sum(heft for where, heft in things if where == room)
        if weighs < least or most is not None and weighs > most:
            return False
    return True


def slow_holders(hall, stand, door):
    """The least lots that hold a door, by trying all lots."""
    rows = hall.door(door)[3]
    near = {name: thing for name, thing in things_at(hall, stand).items() if thing[0] in [row[0] for row in rows]}
    if not met_by(rows, near.values()):
        return []

    def holds(lot):
        return met_by(rows, [near[name] for name in lot])

    lots = [lot for many in range(len(near) + 1) for lot in combinations(sorted(near), many)]
    return sorted(lot for lot in lots
                  if holds(lot) and not any(holds([name for name in lot if name != less]) for less in lot))


def slow_done(hall, stand, deed):
    """The stand behind a deed of right form and names, or the word of why it can't be done."""
    turn, rooms, places = stand
    walker = hall.walkers()[turn]
    here = rooms[turn]
    place_of = dict(zip(hall.stones(), places))
    room_of = dict(zip(hall.walkers(), rooms))
    if deed[0] == "go":
        one, other, way, rows = hall.door(deed[1])
        leads = {one: other} if way == "on" else {one: other, other: one}
        if here not in leads:
            return "room"
        if not met_by(rows, [thing for name, thing in things_at(hall, stand).items() if name != walker]):
            return "shut"
        room_of[walker] = leads[here]
    elif deed[0] == "lift":
        if place_of[deed[1]] != here:
            return "far"
        if list(place_of.values()).count(walker) == hall.hands(walker):
            return "hands"
        place_of[deed[1]] = walker
    elif deed[0] == "lay":
        if place_of[deed[1]] != walker:
            return "held"
        place_of[deed[1]] = here
    behind = turn + 1 if turn + 1 < len(rooms) else 0
    return behind, tuple(room_of.values()), tuple(place_of.values())


def all_deeds(hall):
    """All deeds of a hall's own names, whether they can be done or not, rising."""
    return sorted([("go", door) for door in hall.doors()]
                  + [(word, stone) for word in ("lift", "lay") for stone in hall.stones()] + [("wait",)])
