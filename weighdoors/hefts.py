"""Rising halls, and the least heft of stones with which a goal can be come to."""

from weighdoors.bounds import MOST_SPOTS
from weighdoors.changes import hefted
from weighdoors.errors import NotRising
from weighdoors.plays import Play
from weighdoors.values import barring, cheapest, value


def is_rising(hall):
    """Tell whether no row of the hall has a most."""
    return first_most(hall) is None


def first_most(hall):
    """Tell the first door that has a most, None where none has."""
    for door in hall.doors():
        if any([row[2] is not None for row in hall.door(door)[3]]):
            return door
    return None


def need_rising(hall):
    """Refuse a hall that isn't rising."""
    door = first_most(hall)
    if door is not None:
        raise NotRising(door)


def least_heft(hall, stand, goal, stones, *, most=MOST_SPOTS):
    """Tell the least heft of told stones with which a goal can be come to, a tuple (heft, way, paper)."""
    need_rising(hall)
    high = greatest_least(hall, goal)
    play = weighed(hall, goal, stones, high)
    if value(play, stand, most=most) is None:
        return None, None, barring(play, stand, most=most)
    # By lesser hefts no more can be come to, so nothing below is refused.
    low = 0
    while low < high:
        middle = (low + high) // 2
        if value(weighed(hall, goal, stones, middle), stand, most=most) is None:
            low = middle + 1
        else:
            high = middle
    _, way = cheapest(weighed(hall, goal, stones, low), stand, most=most)
    paper = []
    if low > 0:
        paper = barring(weighed(hall, goal, stones, low - 1), stand, most=most)
    return low, way, paper


def greatest_least(hall, goal):
    """Tell the greatest least of all rows of a hall and of a goal's wishes, 0 where there is none."""
    leasts = [row[1] for door in hall.doors() for row in hall.door(door)[3]]
    leasts.extend([wish[2] for wish in goal if wish[0] == "bears"])
    return max(leasts, default=0)


def weighed(hall, goal, stones, heft):
    """Tell the play of a hall in which these stones all have the same heft."""
    changed = hall
    for stone in stones:
        changed = hefted(changed, stone, heft)
    return Play(changed, goal)
