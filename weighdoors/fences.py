"""Fences: where walkers and stones may be at most, found without going through the stands."""


def is_fence(hall, stand, thing):
    """Tell of anything whether it is a fence of the hall that is closed at the stand."""
    names = hall.walkers() + hall.stones()
    if not isinstance(thing, dict) or len(thing) != len(names) or not all([name in thing for name in names]):
        return False
    if not all([are_rising_rooms(hall, thing[name]) for name in names]):
        return False
    own = own_rooms(hall, stand)
    return all([own[name][0] in thing[name] for name in names]) and widened(hall, thing) == thing


def are_rising_rooms(hall, thing):
    """Tell of anything whether it is a list of unlike rooms of the hall, rising."""
    return isinstance(thing, list) and thing == [room for room in hall.rooms() if room in thing]


def fence(hall, stand):
    """Tell the least fence that is closed at a stand."""
    return rounds(hall, stand)[-1]


def rounds(hall, stand):
    """Tell the fences by which the least one is come to, the stand's own rooms first."""
    told = [own_rooms(hall, stand)]
    wider = widened(hall, told[-1])
    while wider != told[-1]:
        told.append(wider)
        wider = widened(hall, wider)
    return told


def own_rooms(hall, stand):
    """Tell the fence in which each walker and stone is in its own room alone."""
    _, rooms, places = stand
    room_of = {walker: room for walker, room in zip(hall.walkers(), rooms)}
    own = {walker: [room] for walker, room in room_of.items()}
    for stone, place in zip(hall.stones(), places):
        own[stone] = [room_of.get(place, place)]
    return own


def widened(hall, ahead):
    """Tell the fence of the next round, all its lists new; a closed fence stays as it is."""
    borne = may_bear(hall, ahead)
    wider = {walker: widened_walker(hall, ahead, borne, walker) for walker in hall.walkers()}
    lifters = [wider[walker] for walker in hall.walkers() if hall.hands(walker) > 0]
    for stone in hall.stones():
        rooms = {room: True for room in ahead[stone]}
        for others in lifters:
            if share_room(others, ahead[stone]):
                rooms.update({room: True for room in others})
        wider[stone] = sorted(rooms)
    return wider


def widened_walker(hall, ahead, borne, walker):
    """Tell the rooms of a walker and those behind doors that may let it by, by the fence ahead."""
    rooms = {room: True for room in ahead[walker]}
    for room in ahead[walker]:
        for door, behind in hall.leads(room):
            if may_let_by(hall, ahead, borne, door, walker):
                rooms[behind] = True
    return sorted(rooms)


def may_let_by(hall, ahead, borne, door, walker):
    """Tell whether a door may let a walker by, where rooms may bear so much, the walker among it."""
    for room, least, _ in hall.door(door)[3]:
        own = hall.heft(walker) if room in ahead[walker] else 0
        if borne[room] - own < least:
            return False
    return True


def may_bear(hall, some):
    """Tell of each room the hefts of all that may be there by a fence."""
    borne = {room: 0 for room in hall.rooms()}
    for name, rooms in some.items():
        for room in rooms:
            borne[room] += hall.heft(name)
    return borne


def share_room(one, other):
    """Tell whether two lists of rooms have one in common."""
    return any([room in other for room in one])


def bar(hall, stand, goal):
    """Tell the number of the first round in which each wish of a goal may be met, None where there is none."""
    for number, some in enumerate(rounds(hall, stand)):
        borne = may_bear(hall, some)
        if all([may_be_met(hall, some, borne, wish) for wish in goal]):
            return number
    return None


def may_be_met(hall, some, borne, wish):
    """Tell whether a wish may be met by a fence, by which rooms may bear so much."""
    if wish[0] == "open":
        return wish[1] in hall.doors() and all([borne[room] >= least for room, least, _ in hall.door(wish[1])[3]])
    word, one, other = wish
    if word == "bears":
        return borne[one] >= other
    if word == "held":
        return hall.hands(other) > 0 and share_room(some[one], some[other])
    return other in some[one]
