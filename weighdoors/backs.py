"""Ways back: a way undone, the last deed first."""

from weighdoors.deeds import WAIT
from weighdoors.errors import NoBack
from weighdoors.ways import played

UNDOES = {"go": "go", "lift": "lay", "lay": "lift"}


def way_back(hall, stand, way):
    """Tell a way from behind a way to the places of the first stand, all but the turn."""
    stands = played(hall, stand, way)
    for at, deed in enumerate(way):
        if deed[0] == "go" and hall.door(deed[1])[2] == "on":
            raise NoBack(at)
    many = len(hall.walkers())
    turn = stands[-1][0]
    back = []
    for at in reversed(range(len(way))):
        deed = way[at]
        if deed != WAIT:
            # Each deed is undone by the walker that did it, so the others wait until it is its turn.
            doer = stands[at][0]
            back.extend([WAIT] * ((doer - turn) % many))
            back.append((UNDOES[deed[0]], deed[1]))
            turn = (doer + 1) % many
    return tuple(back)
