"""The looker: whether papers are let by, and the moves by which their rows hold. It seeks nothing."""

from weighdoors.errors import NoReply
from weighdoors.names import is_whole


def bars(play, paper):
    """Tell of anything whether it is a barring paper of the play that is let by."""
    if not are_rows(play, paper, 2) or not all([is_bar(number) for _, number in paper]):
        return False
    numbers = barring_table(paper)
    return all([is_barred(play, numbers, spot) for spot in numbers])


def forces(play, paper):
    """Tell of anything whether it is a forcing paper of the play that is let by."""
    if not are_rows(play, paper, 3) or not all([are_force(number, rank) for _, number, rank in paper]):
        return False
    table = forcing_table(paper)
    return all([is_forced(play, table, spot) for spot in table])


def reply(play, paper, spot):
    """Tell a move of our side by which a spot's row of a forcing paper holds."""
    table = forcing_table(paper)
    if not play.is_spot(spot) or spot not in table or not play.ours(spot):
        raise NoReply(spot)
    return [move for move in play.moves(spot) if brings(play, table, spot, move)][0]


def foil(play, paper, spot):
    """Tell a move of the others by which a spot's row of a barring paper holds."""
    numbers = barring_table(paper)
    if not play.is_spot(spot) or spot not in numbers or play.ours(spot):
        raise NoReply(spot)
    return [move for move in play.moves(spot) if keeps(numbers, spot, move)][0]


def are_rows(play, thing, width):
    """Tell of anything whether it is a list of tuples so wide that begin with unlike spots, none of them met."""
    if not isinstance(thing, list):
        return False
    for row in thing:
        if not isinstance(row, tuple) or len(row) != width or not play.is_spot(row[0]) or play.met(row[0]):
            return False
    return len({row[0] for row in thing}) == len(thing)


def is_bar(thing):
    """Tell of anything whether it may be a number of a barring paper."""
    return thing is None or is_whole(thing) and thing > 0


def are_force(number, rank):
    """Tell of two things, of anything, whether they may be a number and a rank of a forcing paper."""
    return is_whole(number) and number >= 0 and is_whole(rank) and rank >= 1


def barring_table(paper):
    """Tell of each spot of a barring paper its number."""
    return {spot: number for spot, number in paper}


def forcing_table(paper):
    """Tell of each spot of a forcing paper its number and rank."""
    return {spot: (number, rank) for spot, number, rank in paper}


def is_barred(play, numbers, spot):
    """Tell whether a spot's row of a barring paper holds."""
    held = [keeps(numbers, spot, move) for move in play.moves(spot)]
    return all(held) if play.ours(spot) else any(held)


def keeps(numbers, spot, move):
    """Tell whether a move adds to at least a spot's own number."""
    _, price, behind = move
    number = numbers.get(behind, 0)
    # None stays None whatever is added to it, and is more than every number.
    if number is None:
        return True
    return numbers[spot] is not None and price + number >= numbers[spot]


def is_forced(play, table, spot):
    """Tell whether a spot's row of a forcing paper holds."""
    held = [brings(play, table, spot, move) for move in play.moves(spot)]
    return any(held) if play.ours(spot) else all(held)


def brings(play, table, spot, move):
    """Tell whether a move leads on by lesser ranks, and adds to no more than a spot's own number."""
    _, price, behind = move
    if behind in table:
        number, rank = table[behind]
    elif play.met(behind):
        number, rank = 0, 0
    else:
        return False
    own_number, own_rank = table[spot]
    return rank < own_rank and price + number <= own_number
