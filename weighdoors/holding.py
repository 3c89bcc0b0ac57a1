"""Who holds a door: the least lots of things by which all its rows are met."""

from weighdoors.stands import lacks


def holders(hall, stand, door):
    """Tell all least lots of things in the rooms of a door's rows that by themselves meet these rows."""
    if lacks(hall, stand, door):
        return []
    # Each thing weighs in one room alone, so what meets one row is chosen apart from all other rows.
    found = [()]
    for room, least, _ in hall.door(door)[3]:
        chosen = least_lots(things_in(hall, stand, room), least)
        found = [lot + more for lot in found for more in chosen]
    return sorted([tuple(sorted(lot)) for lot in found])


def things_in(hall, stand, room):
    """Tell what stands or lies in a room, each (name, heft with all that it carries), the heaviest first."""
    _, rooms, places = stand
    stones = [(stone, place, hall.heft(stone)) for stone, place in zip(hall.stones(), places)]
    things = [(stone, heft) for stone, place, heft in stones if place == room]
    for walker, where in zip(hall.walkers(), rooms):
        if where == room:
            carried = sum([heft for _, place, heft in stones if place == walker])
            things.append((walker, hall.heft(walker) + carried))
    return sorted(things, key=lambda thing: thing[1], reverse=True)


def least_lots(things, least):
    """Tell all lots of things, given heaviest first, that weigh at least so much, but not with one of them less."""
    found = []
    begun = [((), 0, 0)]
    while begun:
        lot, weighs, behind = begun.pop()
        if weighs >= least:
            # The thing taken last is the lightest of the lot, and it was still needed: so is each other one.
            found.append(lot)
            continue
        for at in range(behind, len(things)):
            name, heft = things[at]
            begun.append((lot + (name,), weighs + heft, at + 1))
    return found
