"""Folded plays: of stands that turnings turn into one another the least one alone."""

from weighdoors.bounds import MOST_TURNINGS
from weighdoors.turnings import all_turnings, become, need_turnings, table_of, turned_stand


class Folded:
    """The play of a hall folded by turnings; its spots are the stands that are the least of all they turn into."""

    def __init__(self, play, turnings):
        hall = play.hall()
        need_turnings(hall, turnings, play.goal())
        self._play = play
        self._hall = hall
        self._tables = [table_of(turning) for turning in all_turnings(turnings, MOST_TURNINGS)]
        self._carriers = [carried(hall, names) for names in self._tables]
        self._changed = {name: True for names in self._tables for name in names}
        self._stones = hall.stones()

    def is_spot(self, thing):
        """Tell of anything whether it is a spot."""
        return self._play.is_spot(thing) and self.least(thing) == thing

    def met(self, spot):
        """Tell whether the goal is met at a spot."""
        return self._play.met(spot)

    def ours(self, spot):
        """Tell whether it is our side's turn at a spot."""
        return self._play.ours(spot)

    def moves(self, spot):
        """Tell the moves of a spot, rising, each (deed, price, spot behind)."""
        return [(deed, price, self.least(behind)) for deed, price, behind in self._play.moves(spot)]

    def least(self, stand):
        """Tell the least of all stands into which the turnings turn a stand."""
        # Sought part by part, by ever fewer turnings: there are too many to turn each stand by all of them.
        turn, rooms, places = stand
        left = self._carriers
        least_rooms = []
        for room in rooms:
            name = room
            if room in self._changed:
                name, left = least_name(left, [become_of[room] for become_of, _ in left])
            least_rooms.append(name)
        least_places = []
        for at, name in enumerate(places):
            if name in self._changed or self._stones[at] in self._changed:
                name, left = least_name(left, [become_of[places[come_from[at]]] for become_of, come_from in left])
            least_places.append(name)
        return turn, tuple(least_rooms), tuple(least_places)

    def turned_about(self, stand):
        """Tell all stands into which the turnings turn a stand."""
        return list({turned_stand(self._hall, names, stand): True for names in self._tables})


def carried(hall, names):
    """Tell how a turning carries stands over: what becomes of each place, and which stone stands where in its order."""
    become_of = {place: become(names, place) for place in hall.rooms() + hall.walkers()}
    stones = sorted([(become(names, stone), at) for at, stone in enumerate(hall.stones())])
    return become_of, [at for _, at in stones]


def least_name(carriers, names):
    """Tell the least of the names, and those carriers by which it comes."""
    least = min(names)
    return least, [one for one, name in zip(carriers, names) if name == least]


def unfolded(folded, paper):
    """Tell a paper of the play by a paper of the folded one."""
    told = []
    for row in paper:
        told.extend([(stand,) + row[1:] for stand in folded.turned_about(row[0])])
    return told
