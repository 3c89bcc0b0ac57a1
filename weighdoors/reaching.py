"""What can be come to from a spot of a play."""

from weighdoors.bounds import MOST_SPOTS
from weighdoors.charts import explored


def reach(play, spot, *, most=MOST_SPOTS):
    """Tell all spots that can be come to from a spot, the spot among them, rising."""
    return sorted(explored(play, spot, most).spots())
