"""Halls taken apart and made anew, and what can be come to in them by the slow model."""

from itertools import permutations, product

from slowplays import graph_of, slow_met, slow_moves, slow_values, some_cases
from weighdoors.halls import Hall


def parts_of(hall):
    """A hall's rooms, doors, stones and walkers as a hall is made of them."""
    return {
        "rooms": hall.rooms(),
        "doors": [(name, *hall.door(name)) for name in hall.doors()],
        "stones": [(name, hall.heft(name)) for name in hall.stones()],
        "walkers": [(name, hall.heft(name), hall.hands(name)) for name in hall.walkers()],
    }


def remade(hall, **parts):
    """The hall with some parts exchanged."""
    return Hall(**{**parts_of(hall), **parts})


def without(hall, walls):
    """The hall without some doors."""
    return remade(hall, doors=[door for door in parts_of(hall)["doors"] if door[0] not in walls])


def set_free(hall, doors):
    """The hall with some doors opened."""
    return remade(hall, doors=[(*door[:4], () if door[0] in doors else door[4]) for door in parts_of(hall)["doors"]])


def with_hefts(hall, hefts):
    """The hall with other hefts of some stones."""
    return remade(hall, stones=[(name, hefts.get(name, heft)) for name, heft in parts_of(hall)["stones"]])


def rising(hall):
    """The hall with no most."""
    return remade(hall, doors=[(*door[:4], [(room, least, None) for room, least, _ in door[4]])
                               for door in parts_of(hall)["doors"]])


def all_from(hall, stand, still=()):
    """The graph of all that can be come to from a stand."""
    return graph_of(lambda spot: slow_moves(hall, spot, (1, 1, 1, 1), still), stand)


def comes(hall, stand, goal, still=()):
    """Whether the goal can be come to by all walkers that aren't still."""
    return any(slow_met(hall, spot, goal) for spot in all_from(hall, stand, still))


def worth(hall, stand, goal, prices=(1, 1, 1, 1), side=None):
    """The value of a stand by the slow model."""
    graph = graph_of(lambda spot: slow_moves(hall, spot, prices), stand)
    values = slow_values(graph, lambda spot: slow_met(hall, spot, goal),
                         lambda spot: side is None or hall.walkers()[spot[0]] in side)
    return values[stand]


def small_cases(many, seed, most=60, fits=None):
    """So many cases of few spots of the hall's play, and of whatever else fits."""
    for case in some_cases(100 * many, seed):
        graph = graph_of(lambda spot: slow_moves(case.hall, spot), case.stand, most)
        if graph is not None and (fits is None or fits(case)):
            many -= 1
            yield case
        if many == 0:
            return


def renamed(hall, names):
    """The hall under other names."""
    def new(name):
        return names[name] if name in names else name

    parts = parts_of(hall)
    doors = [(new(name), new(one), new(other), way, [(new(room), least, most) for room, least, most in rows])
             for name, one, other, way, rows in parts["doors"]]
    return Hall([new(room) for room in parts["rooms"]], doors, [(new(name), heft) for name, heft in parts["stones"]],
                [(new(name), heft, hands) for name, heft, hands in parts["walkers"]])


def renamed_stand(hall, names, stand):
    """The stand under other names."""
    turn, rooms, places = stand
    place_of = sorted((names.get(stone, stone), names.get(place, place)) for stone, place in zip(hall.stones(), places))
    return turn, tuple(names.get(room, room) for room in rooms), tuple(place for _, place in place_of)


def star_hall(many=3, stones=("sa", "sb"), hands=1):
    """Like rooms about one in the middle, each with a door of its own; like stones; one walker."""
    rooms = [f"r{letter}" for letter in "abcdef"[:many]]
    doors = [(f"d{room[1]}", "mid", room, "both", [("mid", 0, None), (room, 0, 9)]) for room in rooms]
    return Hall(["mid", *rooms], doors, [(stone, 3) for stone in stones], [("w", 1, hands)])


def twos(*pairs):
    """The turning that exchanges the names of each pair."""
    return tuple(sorted(pair for one, other in pairs for pair in ((one, other), (other, one))))


def slow_turnings(hall):
    """All turnings of a small hall, by trying all exchanges of its rooms, doors and stones."""
    found = []
    sorts = hall.rooms(), hall.doors(), hall.stones()
    for orders in product(*[permutations(names) for names in sorts]):
        names = {name: other for own, order in zip(sorts, orders) for name, other in zip(own, order)}
        if renamed(hall, names) == hall:
            found.append(tuple(sorted((name, other) for name, other in names.items() if name != other)))
    return sorted(found)
