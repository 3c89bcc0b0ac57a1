"""Halls: rooms, doors, stones and walkers, kept in one order."""

from weighdoors.errors import NoName


class Hall:
    """A hall, which nothing changes once it is made."""

    def __init__(self, rooms, doors, stones, walkers):
        self._rooms = sorted(rooms)
        self._doors = {name: kept_door(one, other, way, rows)
                       for name, one, other, way, rows in sorted(doors, key=lambda door: door[0])}
        self._leads = leads_of(self._rooms, self._doors)
        self._stones = sorted([name for name, _ in stones])
        # Kept as a list: a dict is equal to one in another order, and the order of turns counts.
        self._walkers = [name for name, _, _ in walkers]
        self._hefts = {name: heft for name, heft in stones}
        self._hands = {}
        for name, heft, hands in walkers:
            self._hefts[name] = heft
            self._hands[name] = hands

    def __eq__(self, other):
        return (isinstance(other, Hall) and self._rooms == other._rooms and self._doors == other._doors
                and self._stones == other._stones and self._walkers == other._walkers
                and self._hefts == other._hefts and self._hands == other._hands)

    def __len__(self):
        return len(self._rooms)

    def rooms(self):
        """Tell the rooms' names, rising."""
        return list(self._rooms)

    def doors(self):
        """Tell the doors' names, rising."""
        return list(self._doors)

    def stones(self):
        """Tell the stones' names, rising."""
        return list(self._stones)

    def walkers(self):
        """Tell the walkers' names, in the order of their turns."""
        return list(self._walkers)

    def door(self, name):
        """Tell of a door: (one room, other room, way, rows)."""
        return named(self._doors, name)

    def leads(self, room):
        """Tell the doors that lead from a room, rising, each (door, room behind)."""
        return list(self._leads[room])

    def heft(self, name):
        """Tell the heft of a stone or a walker."""
        return named(self._hefts, name)

    def hands(self, walker):
        """Tell how many hands a walker has."""
        return named(self._hands, walker)


def kept_door(one, other, way, rows):
    """Tell a door, all but its name, in the order in which a hall keeps it."""
    if way == "both":
        one, other = sorted([one, other])
    kept = sorted([tuple(row) for row in rows], key=lambda row: row[0])
    return one, other, way, tuple(kept)


def leads_of(rooms, doors):
    """Tell of each room the doors that lead from it, rising, each with the room behind."""
    leads = {room: [] for room in rooms}
    for name, (one, other, way, _) in doors.items():
        leads[one].append((name, other))
        if way == "both":
            leads[other].append((name, one))
    return leads


def named(table, name):
    """Tell what a table has under a name, of anything; what is no text may be no key at all."""
    if not isinstance(name, str) or name not in table:
        raise NoName(name)
    return table[name]
