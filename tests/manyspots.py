"""Halls of known many spots, and a hall with twelve stones and six walkers."""

from weighdoors.halls import Hall


def corridors(*lengths):
    """A hall and a stand: each walker goes about a corridor of its own, of so many rooms.

    What can be come to: so many as there are walkers, times all lengths.
    """
    rooms, doors, walkers, first = [], [], [], []
    for letter, length in zip("abcdef", lengths):
        own = [f"r{letter}{other}" for other in "abcdefghijklmno"[:length]]
        rooms += own
        doors += [(f"d{one[1:]}", one, other, "both", []) for one, other in zip(own, own[1:])]
        walkers.append((f"w{letter}", 1, 0))
        first.append(own[0])
    return Hall(rooms, doors, [], walkers), (0, tuple(first), ())


def full_hall():
    """A hall with 40 rooms, 60 doors, 12 stones and 6 walkers, a stand and a goal.

    Ann fetches a stone that holds the door which lets bob into the hindmost room; the others go about or can't.
    """
    rooms = [f"r{letter}{other}" for letter in "abcd" for other in "abcdefghij"]
    doors = [(f"da{other}", rooms[at], rooms[at + 1], "both", []) for at, other in enumerate("abcd")]
    doors += [(f"db{other}", rooms[at], rooms[at + 1], "both", []) for at, other in zip(range(10, 13), "abc")]
    doors += [("gate", rooms[13], rooms[14], "both", [(rooms[4], 7, None)])]
    doors += [("lane", rooms[20], rooms[21], "both", [(rooms[10], 0, 3)])]
    shut = [(room, 9999999, None) for room in rooms[36:]]
    doors += [(f"s{letter}{other}", rooms[at], rooms[39 - at], "both", shut)
              for letter, at in zip("abcde", range(5)) for other in "abcdefghij"]
    doors += [("last", rooms[30], rooms[31], "on", shut[:1])]
    stones = [(f"t{letter}", 1) for letter in "abcdefghijk"] + [("weight", 7)]
    walkers = [("ann", 2, 1), ("bob", 2, 0), ("cyd", 1, 0), ("dan", 1, 0), ("eve", 1, 0), ("fay", 1, 1)]
    stand = (0, (rooms[4], rooms[10], rooms[20], rooms[33], rooms[34], rooms[35]),
             (rooms[38],) * 9 + ("fay", rooms[37], rooms[0]))
    return Hall(rooms, doors, stones, walkers), stand, (("at", "bob", rooms[14]),)
