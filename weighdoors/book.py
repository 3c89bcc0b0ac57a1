"""The book, in which one hall is lived in: deeds, changes and plans, moment by moment."""

from weighdoors.bounds import MOST_SPOTS, STEPS
from weighdoors.changes import copied, hefted, opened, rowed, walled
from weighdoors.deeds import done, swings
from weighdoors.errors import NoMoment, NoMore, NoPlan, NoWay
from weighdoors.goals import met
from weighdoors.mending import mended
from weighdoors.names import is_whole
from weighdoors.plays import Play
from weighdoors.stands import open_doors
from weighdoors.values import cheapest
from weighdoors.ways import played


class Book:
    """A hall and a stand, and all that was done from there on; what was taken back is kept to be done again."""

    def __init__(self, hall, stand):
        self._acts = []
        # By moments, one more than acts: (hall, stand), and the plan (goal, rest), None where none is kept.
        self._moments = [(copied(hall), stand)]
        self._plans = [None]
        # How many acts are done; those behind were taken back.
        self._now = 0

    def __eq__(self, other):
        return (isinstance(other, Book) and self._moments[0] == other._moments[0]
                and self._acts[:self._now] == other._acts[:other._now])

    def hall_at(self, *, moment=None):
        """Tell the hall as of a moment, of anything; None is the present one."""
        return copied(self._moments[self._place(moment)][0])

    def stand_at(self, *, moment=None):
        """Tell the stand as of a moment, of anything; None is the present one."""
        return self._moments[self._place(moment)][1]

    def _place(self, moment):
        """Tell how many acts were done by a moment, of anything."""
        if moment is None:
            return self._now
        if not is_whole(moment) or not 0 <= moment <= self._now:
            raise NoMoment(moment)
        return moment

    def acts(self):
        """Tell the acts done."""
        return self._acts[:self._now]

    def do(self, deed):
        """Do a deed, of anything."""
        hall, stand = self._moments[self._now]
        behind = done(hall, stand, deed)
        plan = self._plans[self._now]
        if plan is not None:
            goal, rest = plan
            plan = goal, rest[1:]
        self._go_on(("do", deed), (hall, behind), plan)

    def set_heft(self, name, heft):
        """Give a stone or walker another heft."""
        hall, stand = self._moments[self._now]
        self._go_on(("heft", name, heft), (hefted(hall, name, heft), stand), self._plans[self._now])

    def set_rows(self, door, rows):
        """Give a door other rows."""
        hall, stand = self._moments[self._now]
        changed = rowed(hall, door, rows)
        # Told in the order in which the hall keeps them.
        self._go_on(("rows", door, changed.door(door)[3]), (changed, stand), self._plans[self._now])

    def wall(self, door):
        """Wall a door."""
        hall, stand = self._moments[self._now]
        self._go_on(("wall", door), (walled(hall, door), stand), self._plans[self._now])

    def open_up(self, door):
        """Open a door for ever."""
        hall, stand = self._moments[self._now]
        self._go_on(("open", door), (opened(hall, door), stand), self._plans[self._now])

    def _go_on(self, act, moment, plan):
        """Go on to the moment behind an act; what was taken back is let go."""
        self._acts = self._acts[:self._now] + [act]
        self._moments = self._moments[:self._now + 1] + [moment]
        self._plans = self._plans[:self._now + 1] + [plan]
        self._now += 1

    def swung(self):
        """Tell the doors that the last act done opened and those that it shut, a tuple of two lists, rising."""
        if self._now == 0:
            return [], []
        (hall, stand), (changed, behind) = self._moments[self._now - 1:self._now + 1]
        return swings(open_doors(hall, stand), open_doors(changed, behind))

    def back(self):
        """Take the last act back, and tell it."""
        if self._now == 0:
            raise NoMore("back")
        self._now -= 1
        return self._acts[self._now]

    def on(self):
        """Do the act taken back last again, and tell it."""
        if self._now == len(self._acts):
            raise NoMore("on")
        self._now += 1
        return self._acts[self._now - 1]

    def keep(self, goal, *, prices=STEPS, most=MOST_SPOTS):
        """Keep a cheapest way to a goal as the plan, and tell its price, None where there is none."""
        hall, stand = self._moments[self._now]
        return self._take(goal, cheapest(Play(hall, goal, prices=prices), stand, most=most))

    def rest(self):
        """Tell the rest of the plan, a way."""
        _, rest = self._kept()
        return rest

    def holds(self):
        """Tell whether the rest of the plan is a way to its goal."""
        goal, rest = self._kept()
        hall, stand = self._moments[self._now]
        try:
            stands = played(hall, stand, rest)
        except NoWay:
            return False
        return met(hall, stands[-1], goal)

    def mend(self, *, most=MOST_SPOTS):
        """Mend the plan, and tell the least price at which that is done, None where it can't be."""
        goal, rest = self._kept()
        hall, stand = self._moments[self._now]
        return self._take(goal, mended(hall, stand, goal, rest, most=most))

    def _take(self, goal, told):
        """Take a told way to a goal as the plan, and tell its price; None, and what was kept is, where none is told."""
        if told is None:
            return None
        price, way = told
        self._plans[self._now] = goal, way
        return price

    def _kept(self):
        """Tell the goal and the rest of the plan of the present moment."""
        plan = self._plans[self._now]
        if plan is None:
            raise NoPlan()
        return plan
