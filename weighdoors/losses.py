"""Losses: the deed of a way behind which a goal can't be come to any more."""

from weighdoors.bounds import MOST_SPOTS
from weighdoors.plays import Play
from weighdoors.values import settled
from weighdoors.ways import played


def lost(hall, stand, goal, way, *, most=MOST_SPOTS):
    """Tell behind how many deeds of a way a goal is lost, None where it isn't."""
    stands = played(hall, stand, way)
    chart, found = settled(Play(hall, goal), stand, most)
    for number, behind in enumerate(stands):
        if chart.place(behind) not in found:
            return number
    return None
