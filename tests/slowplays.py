"""Plays by the slow model of samples.py: graphs of moves, values and lookers reckoned from the document's words."""

from random import Random

from samples import all_deeds, slow_done, some_hall, some_stand, things_at, met_by

WORDS = ("go", "lift", "lay", "wait")


def slow_met(hall, stand, goal):
    """Whether each wish is met."""
    _, rooms, places = stand
    room_of, place_of = dict(zip(hall.walkers(), rooms)), dict(zip(hall.stones(), places))
    things = things_at(hall, stand).values()
    for word, *rest in goal:
        if word == "open":
            is_met = rest[0] in hall.doors() and met_by(hall.door(rest[0])[3], things)
        elif word == "bears":
            is_met = sum(heft for room, heft in things if room == rest[0]) >= rest[1]
        else:
            is_met = (room_of if word == "at" else place_of)[rest[0]] == rest[1]
        if not is_met:
            return False
    return True


def slow_moves(hall, stand, prices=(1, 1, 1, 1), still=()):
    """The moves of a stand in a hall's play."""
    if hall.walkers()[stand[0]] in still:
        return [(("wait",), prices[3], slow_done(hall, stand, ("wait",)))]
    tried = [(deed, prices[WORDS.index(deed[0])], slow_done(hall, stand, deed)) for deed in all_deeds(hall)]
    return [move for move in tried if not isinstance(move[2], str)]


def slow_rationed_moves(hall, spot):
    """The moves of a spot in a play with layings counted."""
    stand, left = spot
    return [(deed, price, (behind, left - (deed[0] == "lay"))) for deed, price, behind in slow_moves(hall, stand)
            if deed[0] != "lay" or left > 0]


def graph_of(moves_of, spot, most=10 ** 9):
    """All that can be come to from a spot, each with its moves; None where it is more than most."""
    graph, ahead = {}, [spot]
    while ahead:
        one = ahead.pop()
        if one not in graph:
            graph[one] = moves_of(one)
            ahead += [behind for _, _, behind in graph[one]]
        if len(graph) > most:
            return None
    return graph


def add(price, number):
    """A price and a number or None."""
    return None if number is None else price + number


def order(number):
    """By which numbers and None are ordered."""
    return (1, 0) if number is None else (0, number)


def slow_values(graph, met, ours):
    """The value of each spot: what can be brought about within more and more moves, until that changes nothing."""
    values = {spot: 0 if met(spot) else None for spot in graph}
    while True:
        longer = {}
        for spot, moves in graph.items():
            offers = [add(price, values[behind]) for _, price, behind in moves]
            longer[spot] = 0 if met(spot) else (min if ours(spot) else max)(offers, key=order)
        if longer == values:
            return values
        values = longer


def slow_bars(graph, met, ours, paper):
    """Whether a list of tuples of right form is let by as a barring paper of spots in the graph."""
    numbers = dict(paper)
    if len(numbers) < len(paper) or any(met(spot) for spot in numbers):
        return False
    for spot, own in paper:
        holds = [order(add(price, numbers.get(behind, 0))) >= order(own) for _, price, behind in graph[spot]]
        if not (all if ours(spot) else any)(holds):
            return False
    return True


def slow_forces(graph, met, ours, paper):
    """Whether a list of tuples of right form is let by as a forcing paper of spots in the graph."""
    rows = {spot: (number, rank) for spot, number, rank in paper}
    if len(rows) < len(paper) or any(met(spot) for spot in rows):
        return False
    for spot, own, rank in paper:
        holds = []
        for _, price, behind in graph[spot]:
            number, lesser = (0, 0) if met(behind) else rows.get(behind, (10 ** 30, 10 ** 30))
            holds.append(lesser < rank and price + number <= own)
        if not (any if ours(spot) else all)(holds):
            return False
    return True


def some_goal(hall, stand, dice):
    """A goal of a hall, told by the dice, half of its wishes as they are met at the stand."""
    _, rooms, places = stand
    wishes = []
    for _ in range(dice.choice([0, 1, 1, 1, 1, 2, 2, 3])):
        word = dice.choice(["at", "at", "at", "place", "place", "open", "bears"])
        at = dice.randrange(len(rooms))
        if word == "at":
            room = dice.choice([rooms[at], dice.choice(hall.rooms())])
            wishes.append(("at", hall.walkers()[at], room))
        elif word == "place" and places:
            at = dice.randrange(len(places))
            place = dice.choice([places[at], dice.choice(hall.rooms() + hall.walkers())])
            wishes.append(("lies" if place in hall.rooms() else "held", hall.stones()[at], place))
        elif word == "open":
            wishes.append(("open", dice.choice(hall.doors() + ["nosuch"])))
        else:
            wishes.append(("bears", dice.choice(hall.rooms()), dice.randint(0, 8)))
    return tuple(wishes)


class SlowPlay:
    """A case told by the dice: a hall, a stand, a goal, prices, a side, still ones, and the graph of the play."""

    def __init__(self, dice):
        self.hall = some_hall(dice)
        self.stand = some_stand(self.hall, dice)
        walkers = self.hall.walkers()
        self.prices = tuple(dice.choice([0, 0, 1, 2, 5]) for _ in range(4))
        side = [walker for walker in walkers if dice.random() < 0.5]
        self.side = dice.choice([None, None, side, tuple(side) * 2, side])
        self.still = dice.choice([(), (), [dice.choice(walkers)]])
        self.graph = graph_of(lambda stand: slow_moves(self.hall, stand, self.prices, self.still), self.stand, 300)
        if self.graph is not None:
            self.goal = some_goal(self.hall, dice.choice(sorted(self.graph)), dice)

    def options(self):
        """What a Play is handed in beside the hall and the goal."""
        return {"prices": self.prices, "side": self.side, "still": self.still}

    def met(self, spot):
        return slow_met(self.hall, spot, self.goal)

    def ours(self, spot):
        return self.side is None or self.hall.walkers()[spot[0]] in self.side


def some_cases(many, seed):
    """So many cases of at most 300 spots, always the same ones."""
    dice = Random(seed)
    while many:
        case = SlowPlay(dice)
        if case.graph is not None:
            many -= 1
            yield case
