"""What each door is worth to a goal, and by which way two halls are parted."""

from weighdoors.bounds import MOST_SPOTS, STEPS
from weighdoors.changes import opened, walled
from weighdoors.charts import explored
from weighdoors.errors import Unlike
from weighdoors.plays import Play
from weighdoors.values import value


def by_door(hall, stand, goal, *, prices=STEPS, most=MOST_SPOTS):
    """Tell of each door the goal's value without it and with it opened, tuples (door, walled, opened), rising."""
    play = Play(hall, goal, prices=prices)
    own = value(play, stand, most=most)
    gone, barred = gone_and_barred(hall, explored(play, stand, most))
    told = []
    for door in hall.doors():
        is_wished = ("open", door) in goal
        shut = own
        if door in gone or is_wished:
            shut = value(Play(walled(hall, door), goal, prices=prices), stand, most=most)
        free = own
        if door in barred or is_wished:
            free = value(Play(opened(hall, door), goal, prices=prices), stand, most=most)
        told.append((door, shut, free))
    return told


def gone_and_barred(hall, chart):
    """Tell the doors that somebody goes through, and those that don't let somebody by: as keys of two dicts.

    To wall a door of which nobody makes use, or to open one that lets by whoever comes to it, changes no move.
    """
    gone = {}
    barred = {}
    for at in range(chart.many()):
        turn, rooms, _ = chart.spot(at)
        through = [deed[1] for deed, _, _ in chart.moves(at) if deed[0] == "go"]
        for door, _ in hall.leads(rooms[turn]):
            if door in through:
                gone[door] = True
            else:
                barred[door] = True
    return gone, barred


def parting(one, other, stand, *, most=MOST_SPOTS):
    """Tell a way of fewest deeds that the one hall lets and the other doesn't, None where there is none."""
    if one.rooms() != other.rooms() or one.stones() != other.stones() or one.walkers() != other.walkers():
        raise Unlike()
    chart = explored(Play(one, ()), stand, most)
    second = Play(other, ())
    way_to = {0: ()}
    # The places of a chart rise by how many moves lead there.
    for at in range(chart.many()):
        behind_of = {deed: behind for deed, _, behind in second.moves(chart.spot(at))}
        for deed, _, behind in chart.moves(at):
            way = way_to[at] + (deed,)
            if behind_of.get(deed) != chart.spot(behind):
                return way
            if behind not in way_to:
                way_to[behind] = way
    return None
