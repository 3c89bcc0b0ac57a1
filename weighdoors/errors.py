"""The refusals, each with the fields that tell what was refused."""


class NoText(ValueError):
    """A text that isn't written so; row tells where."""

    def __init__(self, row):
        self.row = row


class NoDeed(ValueError):
    """A deed that can't be done; why is a word."""

    def __init__(self, why):
        self.why = why


class NoWay(ValueError):
    """A way that can't be gone; at is the place of its first deed that can't be done."""

    def __init__(self, at, why):
        self.at = at
        self.why = why


class NoGoal(ValueError):
    """No goal of the hall; at is the place of the first wish that isn't one."""

    def __init__(self, at):
        self.at = at


class NoTurning(ValueError):
    """No turning of the hall; at is the place of the first that isn't one."""

    def __init__(self, at):
        self.at = at


class NoName(KeyError):
    """No such name of the hall."""

    def __init__(self, asked):
        self.asked = asked


class NoReply(KeyError):
    """A spot for which a paper has no reply."""

    def __init__(self, asked):
        self.asked = asked


class NoNumber(IndexError):
    """A number or a way that isn't among the counted ones."""

    def __init__(self, asked):
        self.asked = asked


class NoMoment(IndexError):
    """A moment that a book doesn't have."""

    def __init__(self, asked):
        self.asked = asked


class NoPlan(LookupError):
    """A book in which no plan is kept."""


class NoMore(LookupError):
    """Nothing is left to go back or on to; word tells which."""

    def __init__(self, word):
        self.word = word


class NotRising(ArithmeticError):
    """A hall that isn't rising; name is the first door that has a most."""

    def __init__(self, name):
        self.name = name


class Unlike(ArithmeticError):
    """Two halls that haven't the same rooms, stones and walkers."""


class TooMany(OverflowError):
    """More can be come to than the told most."""

    def __init__(self, most):
        self.most = most


class NoBack(RuntimeError):
    """A way that can't be undone; at is the place of its first deed through a door that goes on alone."""

    def __init__(self, at):
        self.at = at


class NotMet(RuntimeError):
    """A way behind whose last deed the goal isn't met."""
