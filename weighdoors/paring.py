"""Paring: the fewest deeds of a way without which its goal isn't met."""

from weighdoors.bounds import MOST_SPOTS
from weighdoors.deeds import WAIT, stand_behind, why_not
from weighdoors.errors import NotMet
from weighdoors.goals import met
from weighdoors.stands import is_stand_with
from weighdoors.values import cheapest
from weighdoors.ways import played


class Paring:
    """The play in which a plan is pared; its spots are (stand, place in the plan)."""

    def __init__(self, hall, goal, plan):
        self._hall = hall
        self._goal = goal
        self._plan = tuple(plan)

    def is_spot(self, thing):
        """Tell of anything whether it is a spot."""
        return is_stand_with(self._hall, thing, len(self._plan))

    def met(self, spot):
        """Tell whether the goal is met at a spot behind the whole plan."""
        stand, place = spot
        return place == len(self._plan) and met(self._hall, stand, self._goal)

    def ours(self, spot):
        """Tell whether it is our side's turn at a spot: always."""
        return True

    def moves(self, spot):
        """Tell the moves of a spot, rising, each (deed, price, spot behind)."""
        stand, place = spot
        if place == len(self._plan):
            return []
        told = [(WAIT, 0, (stand_behind(self._hall, stand, WAIT), place + 1))]
        deed = self._plan[place]
        if deed == WAIT or why_not(self._hall, stand, deed) is not None:
            return told
        return [(deed, 1, (stand_behind(self._hall, stand, deed), place + 1))] + told


def pared(hall, stand, goal, way, *, most=MOST_SPOTS):
    """Tell the fewest deeds of a way that meet its goal, the others being waits: a tuple (number, way)."""
    stands = played(hall, stand, way)
    if not met(hall, stands[-1], goal):
        raise NotMet()
    return cheapest(Paring(hall, goal, way), (stand, 0), most=most)
