"""Lots: which doors, stones or walkers suffice, which don't, and the papers that show it."""

from weighdoors.bounds import MOST_SPOTS
from weighdoors.changes import hollowed, opened, walled
from weighdoors.charts import explored
from weighdoors.hefts import need_rising
from weighdoors.papers import bars, forces
from weighdoors.plays import Play
from weighdoors.values import barring, forcing, value


def lots(hall, stand, goal, word, *, most=MOST_SPOTS):
    """Tell all least lots that do and all greatest that don't, a tuple of two lists, each rising."""
    need_sought(hall, stand, goal, word, most)
    names = names_of(hall, word)
    does = {}
    for lot in by_use(all_lots(names)):
        if lot not in does:
            answer = value(lot_play(hall, goal, word, lot), stand, most=most) is not None
            if word == "wall":
                answer = not answer
            for other in implied(names, lot, answer):
                does[other] = answer
    least = [lot for lot in does if does[lot] and not any([does[less] for less in with_one_less(lot)])]
    greatest = [lot for lot in does if not does[lot] and all([does[more] for more in with_one_more(names, lot)])]
    return sorted(least), sorted(greatest)


def need_sought(hall, stand, goal, word, most):
    """Refuse a question of lots of a hall that isn't rising where it must be, or that is too great."""
    if word == "weigh":
        need_rising(hall)
    widest = hall
    if word == "open":
        for door in hall.doors():
            widest = opened(widest, door)
    explored(Play(widest, goal), stand, most)


def names_of(hall, word):
    """Tell all names of a word's sort."""
    if word in ("open", "wall"):
        return hall.doors()
    if word == "weigh":
        return hall.stones()
    return hall.walkers()


def lot_play(hall, goal, word, lot):
    """Tell the play by which a lot does or doesn't."""
    if word == "force":
        return Play(hall, goal, side=lot)
    if word == "walk":
        return Play(hall, goal, still=[walker for walker in hall.walkers() if walker not in lot])
    changed = hall
    if word == "weigh":
        for stone in hall.stones():
            if stone not in lot:
                changed = hollowed(changed, stone)
    else:
        for door in lot:
            changed = opened(changed, door) if word == "open" else walled(changed, door)
    return Play(changed, goal)


def all_lots(names):
    """Tell all lots of names."""
    found = [()]
    for name in sorted(names):
        found = found + [lot + (name,) for lot in found]
    return found


def by_use(some):
    """Tell all lots of some names, a list, in another order: first those whose answers tell most of the others.

    Where the full one doesn't, or the empty one does, all is told; from the middle ones much is told of both sides.
    """
    middle = len(some[-1]) // 2
    inner = [lot for lot in some[1:-1] if len(lot) == middle]
    outer = [lot for lot in some[1:-1] if len(lot) != middle]
    return [some[-1], some[0]] + inner + outer


def implied(names, lot, answer):
    """Tell the lots that have the answer of a lot, too: what a lot does each greater one does."""
    if answer:
        return [other for other in all_lots(names) if is_within(lot, other)]
    return [other for other in all_lots(names) if is_within(other, lot)]


def is_within(lot, other):
    """Tell whether all names of a lot are in another one."""
    return all([name in other for name in lot])


def with_one_less(lot):
    """Tell the lots that have one of the names less."""
    return [lot[:at] + lot[at + 1:] for at in range(len(lot))]


def with_one_more(names, lot):
    """Tell the lots that have one of all names more."""
    return [tuple(sorted(lot + (name,))) for name in names if name not in lot]


def lot_paper(hall, stand, goal, word, lot, *, most=MOST_SPOTS):
    """Tell whether a lot does, with a paper: ("does", paper) or ("not", paper)."""
    need_sought(hall, stand, goal, word, most)
    play = lot_play(hall, goal, word, lot)
    comes = value(play, stand, most=most) is not None
    told = "does" if comes != (word == "wall") else "not"
    if comes:
        return told, forcing(play, stand, most=most)
    return told, barring(play, stand, most=most)


def lot_holds(hall, stand, goal, word, lot, thing):
    """Tell of anything whether it is a lot's word and a paper that shows it."""
    if not isinstance(thing, tuple) or len(thing) != 2 or thing[0] not in ("does", "not"):
        return False
    told, paper = thing
    play = lot_play(hall, goal, word, lot)
    if (told == "does") != (word == "wall"):
        return forces(play, paper) and (play.met(stand) or stand in [row[0] for row in paper])
    return bars(play, paper) and (stand, None) in paper


def covers(names, does, fails):
    """Tell whether each lot of the names has a doing one within it or is within a failing one, and none both."""
    for lot in all_lots(names):
        is_done = any([is_within(one, lot) for one in does])
        if is_done == any([is_within(lot, one) for one in fails]):
            return False
    return True
