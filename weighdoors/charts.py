"""Charts: the spots of a play numbered as they are found, so that what seeks goes over numbers."""

from weighdoors.errors import TooMany


class Chart:
    """The spots found so far from a first one, which has the place 0."""

    def __init__(self, play, spot):
        self._play = play
        self._spots = [spot]
        self._place_of = {spot: 0}
        self._moves = {}

    def spots(self):
        """Tell the spots found so far, by their places."""
        return list(self._spots)

    def spot(self, at):
        """Tell the spot at a place."""
        return self._spots[at]

    def place(self, spot):
        """Tell the place of a spot that is found."""
        return self._place_of[spot]

    def many(self):
        """Tell how many spots are found so far."""
        return len(self._spots)

    def moves(self, at):
        """Tell the moves of the spot at a place, each (deed, price, place of the spot behind).

        The spots behind that are new get the next places.
        """
        if at not in self._moves:
            moves = self._play.moves(self._spots[at])
            self._moves[at] = [(deed, price, self._place(behind)) for deed, price, behind in moves]
        return list(self._moves[at])

    def _place(self, spot):
        """Tell the place of a spot, the next one where it is new."""
        at = self._place_of.get(spot)
        if at is None:
            at = len(self._spots)
            self._place_of[spot] = at
            self._spots.append(spot)
        return at


def explored(play, spot, most):
    """Tell the chart of all spots that can be come to from a spot, refused where they are too many."""
    chart = Chart(play, spot)
    at = 0
    while at < chart.many():
        chart.moves(at)
        if chart.many() > most:
            raise TooMany(most)
        at += 1
    return chart
