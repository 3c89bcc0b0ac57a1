"""Values of spots, and the papers and ways that show them."""

from heapq import heappop, heappush

from weighdoors.bounds import MOST_SPOTS
from weighdoors.charts import explored


def value(play, spot, *, most=MOST_SPOTS):
    """Tell the value of a spot, None where our side can't bring about that a met spot is come to."""
    _, found = settled(play, spot, most)
    return found[0][0] if 0 in found else None


def barring(play, spot, *, most=MOST_SPOTS):
    """Tell a barring paper in which the spot has its value, the empty one where that is 0."""
    chart, found = settled(play, spot, most)
    if 0 in found and found[0][0] == 0:
        return []
    numbers = [found[at][0] if at in found else None for at in range(chart.many())]
    return [(other, number) for other, number in zip(chart.spots(), numbers) if number != 0]


def forcing(play, spot, *, most=MOST_SPOTS):
    """Tell a forcing paper in which the spot has its value, the empty one where it is met or has none."""
    chart, found = settled(play, spot, most)
    if 0 not in found or is_met(found[0]):
        return []
    return [(chart.spot(at), worth[0], worth[1]) for at, worth in found.items() if not is_met(worth)]


def cheapest(play, spot, *, most=MOST_SPOTS):
    """Tell a cheapest way of a play of our side alone, a tuple (value, way), None where there is none."""
    _, found = settled(play, spot, most)
    if 0 not in found:
        return None
    way = []
    worth = found[0]
    while not is_met(worth):
        _, _, deed, behind = worth
        way.append(deed)
        worth = found[behind]
    return found[0][0], tuple(way)


def is_met(worth):
    """Tell whether what a spot is worth is that of a met one: these alone have the rank 0."""
    return worth[1] == 0


def settled(play, spot, most):
    """Tell the chart of what can be come to from a spot, and what each spot there is worth that has a value.

    A worth is (value, rank, deed, place behind). The rank is how many moves are left at most, so it falls along
    moves of no price, too; the deed is one by which the value is come to.
    """
    chart = explored(play, spot, most)
    places = range(chart.many())
    met = [play.met(other) for other in chart.spots()]
    ours = [play.ours(other) for other in chart.spots()]
    left = [len(chart.moves(at)) for at in places]
    into = moves_into(chart, met)
    offers = {at: (0, 0, None, None) for at in places if met[at]}
    queue = [(0, at) for at in offers]
    found = {}
    while queue:
        _, at = heappop(queue)
        if at in found:
            continue
        found[at] = offers[at]
        for before, price, deed in into[at]:
            offer = (found[at][0] + price, found[at][1] + 1, deed, at)
            choose = cheaper if ours[before] else dearer
            offers[before] = choose(offers.get(before, offer), offer)
            left[before] -= 1
            # The others are sure of nothing as long as one of their moves may lead to no met spot.
            if ours[before] or left[before] == 0:
                heappush(queue, (offers[before][0], before))
    return chart, found


def moves_into(chart, met):
    """Tell of each place the moves that lead to it, each (place before, price, deed), from spots not met."""
    into = [[] for _ in met]
    for at in range(chart.many()):
        if not met[at]:
            for deed, price, behind in chart.moves(at):
                into[behind].append((at, price, deed))
    return into


def cheaper(one, other):
    """Tell what a spot of ours is worth by two of its moves."""
    return other if other[0] < one[0] else one


def dearer(one, other):
    """Tell what a spot of the others is worth by two of its moves, by the greater value and the greater rank."""
    number, _, deed, behind = other if other[0] > one[0] else one
    return number, max(one[1], other[1]), deed, behind
