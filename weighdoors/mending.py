"""Mending: the way to a goal that is most like a plan."""

from weighdoors.bounds import MOST_SPOTS
from weighdoors.deeds import deeds, stand_behind
from weighdoors.goals import met
from weighdoors.stands import is_stand_with
from weighdoors.values import cheapest

END = ()


class Mending:
    """The play in which a plan is mended; its spots are (stand, place in the plan) and the end."""

    def __init__(self, hall, goal, plan):
        self._hall = hall
        self._goal = goal
        self._plan = tuple(plan)

    def is_spot(self, thing):
        """Tell of anything whether it is a spot."""
        return thing == END or is_stand_with(self._hall, thing, len(self._plan))

    def met(self, spot):
        """Tell whether a spot is the end."""
        return spot == END

    def ours(self, spot):
        """Tell whether it is our side's turn at a spot: always."""
        return True

    def moves(self, spot):
        """Tell the moves of a spot, rising, each (deed, price, spot behind)."""
        if spot == END:
            return []
        stand, place = spot
        left = self._plan[place:]
        told = []
        if met(self._hall, stand, self._goal):
            told.append((("end",), len(left), END))
        behind = place + 1 if left else place
        for deed in deeds(self._hall, stand):
            price = 0 if deed in left[:1] else 1
            told.append((deed, price, (stand_behind(self._hall, stand, deed), behind)))
        return told


def mended(hall, stand, goal, plan, *, most=MOST_SPOTS):
    """Tell the way to a goal that mends a plan at the least price, a tuple (price, way), None where there is none."""
    told = cheapest(Mending(hall, goal, plan), (stand, 0), most=most)
    if told is None:
        return None
    price, way = told
    return price, way[:-1]
