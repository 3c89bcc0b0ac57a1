"""Ways: deeds done one behind the other, and their texts."""

from weighdoors.deeds import done, is_deed
from weighdoors.errors import NoDeed, NoText, NoWay

BETWEEN = ", "


def played(hall, stand, way):
    """Tell the stands that a way goes through, the first one among them."""
    stands = [stand]
    for at, deed in enumerate(way):
        try:
            stands.append(done(hall, stands[-1], deed))
        except NoDeed as refusal:
            raise NoWay(at, refusal.why) from None
    return stands


def show_way(way):
    """Tell the text of a way."""
    return BETWEEN.join([" ".join(deed) for deed in way])


def read_way(text):
    """Tell the way that a text, of anything, writes."""
    if not isinstance(text, str):
        raise NoText(0)
    # Python parts the empty text into one empty part.
    if text == "":
        return ()
    way = [tuple(part.split(" ")) for part in text.split(BETWEEN)]
    for at, deed in enumerate(way):
        if not is_deed(deed):
            raise NoText(at)
    return tuple(way)
