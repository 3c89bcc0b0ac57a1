"""Plays of halls: spots, which of them are met, whose turn it is there, and moves."""

from weighdoors.bounds import STEPS
from weighdoors.deeds import WAIT, deeds, stand_behind
from weighdoors.goals import met
from weighdoors.stands import is_stand, is_stand_with

# In the order in which prices are told.
WORDS = ("go", "lift", "lay", "wait")


class Play:
    """The play of a hall; its spots are the hall's stands."""

    def __init__(self, hall, goal, *, prices=STEPS, side=None, still=()):
        self._hall = hall
        self._goal = goal
        self._prices = {word: price for word, price in zip(WORDS, prices)}
        # By the order of turns, as spots tell whose turn it is.
        self._ours = [side is None or walker in side for walker in hall.walkers()]
        self._still = [walker in still for walker in hall.walkers()]

    def hall(self):
        """Tell the hall."""
        return self._hall

    def goal(self):
        """Tell the goal."""
        return self._goal

    def is_spot(self, thing):
        """Tell of anything whether it is a spot."""
        return is_stand(self._hall, thing)

    def met(self, spot):
        """Tell whether the goal is met at a spot."""
        return met(self._hall, spot, self._goal)

    def ours(self, spot):
        """Tell whether it is our side's turn at a spot."""
        return self._ours[spot[0]]

    def moves(self, spot):
        """Tell the moves of a spot, rising, each (deed, price, spot behind)."""
        can = [WAIT] if self._still[spot[0]] else deeds(self._hall, spot)
        return [(deed, self._prices[deed[0]], stand_behind(self._hall, spot, deed)) for deed in can]


class Rationed:
    """The play of a hall with layings counted; its spots are (stand, how many layings are left)."""

    def __init__(self, hall, goal, layings):
        self._hall = hall
        self._goal = goal
        self._layings = layings

    def is_spot(self, thing):
        """Tell of anything whether it is a spot."""
        return is_stand_with(self._hall, thing, self._layings)

    def met(self, spot):
        """Tell whether the goal is met at a spot."""
        return met(self._hall, spot[0], self._goal)

    def ours(self, spot):
        """Tell whether it is our side's turn at a spot: always."""
        return True

    def moves(self, spot):
        """Tell the moves of a spot, rising, each (deed, price, spot behind)."""
        stand, left = spot
        told = []
        for deed in deeds(self._hall, stand):
            rest = left - 1 if deed[0] == "lay" else left
            if rest >= 0:
                told.append((deed, 1, (stand_behind(self._hall, stand, deed), rest)))
        return told
