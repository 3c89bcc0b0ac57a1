"""The front: with how few steps a goal can be come to with how many layings."""

from heapq import heappop, heappush

from weighdoors.bounds import MOST_SPOTS
from weighdoors.charts import explored
from weighdoors.plays import Play


def front(hall, stand, goal, *, most=MOST_SPOTS):
    """Tell tuples (layings, steps), rising: from the fewest layings on, each one more that saves steps."""
    play = Play(hall, goal)
    chart = explored(play, stand, most)
    told = []
    fewest = {}
    queue = [(0, 0, 0)]
    while queue:
        layings, steps, at = heappop(queue)
        # What came ahead had no more layings, so this is worth something by fewer steps alone.
        if not is_less(steps, fewest.get(at)) or told and not is_less(steps, told[-1][1]):
            continue
        fewest[at] = steps
        if play.met(chart.spot(at)):
            told.append((layings, steps))
            continue
        for deed, _, behind in chart.moves(at):
            heappush(queue, (layings + 1 if deed[0] == "lay" else layings, steps + 1, behind))
    return told


def is_less(steps, than):
    """Tell whether steps are fewer than others, of which None is more than every number."""
    return than is None or steps < than
