"""Counted ways: how many of a length there are, and their numbers."""

from weighdoors.charts import Chart
from weighdoors.errors import NoNumber
from weighdoors.names import is_whole


def count_ways(play, spot, length):
    """Tell how many ways of just so many moves lead from a spot to a met one."""
    _, counts = counted(play, spot, length)
    return counts[length][0]


def way_at(play, spot, length, number):
    """Tell the way that has a number, of anything, among those of a length, as Python orders tuples of deeds."""
    chart, counts = counted(play, spot, length)
    if not is_whole(number) or not 0 <= number < counts[length][0]:
        raise NoNumber(number)
    way = []
    at = 0
    over = number
    for left in reversed(range(length)):
        deed, at, over = move_over(chart, counts[left], at, over)
        way.append(deed)
    return tuple(way)


def number_of(play, spot, way):
    """Tell the number of a way, of deeds of any form, among those of its length."""
    chart, counts = counted(play, spot, len(way))
    number = 0
    at = 0
    for place, deed in enumerate(way):
        found = lesser_ways(chart, counts[len(way) - place - 1], at, deed)
        if found is None:
            raise NoNumber(way)
        lesser, at = found
        number += lesser
    if counts[0][at] == 0:
        raise NoNumber(way)
    return number


def counted(play, spot, length):
    """Tell a chart, and for each number of moves left a dict: from which place how many ways lead to a met spot."""
    chart = Chart(play, spot)
    layers = [[0]]
    for _ in range(length):
        layers.append(layer_behind(chart, layers[-1]))
    counts = [{at: 1 if play.met(chart.spot(at)) else 0 for at in layers[-1]}]
    for layer in reversed(layers[:-1]):
        shorter = counts[-1]
        counts.append({at: sum([shorter[behind] for _, _, behind in chart.moves(at)]) for at in layer})
    return chart, counts


def layer_behind(chart, layer):
    """Tell the unlike places to which one move leads from these."""
    found = {}
    for at in layer:
        for _, _, behind in chart.moves(at):
            found[behind] = True
    return list(found)


def move_over(chart, shorter, at, over):
    """Tell the move from a place of the way that so many others go ahead of.

    Told are its deed, the place behind it, and how many others go ahead of what is left of the way.
    """
    moves = chart.moves(at)
    chosen = 0
    while over >= shorter[moves[chosen][2]]:
        over -= shorter[moves[chosen][2]]
        chosen += 1
    deed, _, behind = moves[chosen]
    return deed, behind, over


def lesser_ways(chart, shorter, at, deed):
    """Tell how many ways a place has by lesser deeds than this, and the place behind it, None where it has no such."""
    lesser = 0
    for other, _, behind in chart.moves(at):
        if other == deed:
            return lesser, behind
        lesser += shorter[behind]
    return None
