"""The errors by which a call is refused, one for each refusal."""


class Refusal(Exception):
    """A call isn't done; number is all that is answered."""

    def __init__(self, number):
        self.number = number


class NoGrowth(Refusal):
    def __init__(self):
        Refusal.__init__(self, -1)


class NoRule(Refusal):
    def __init__(self):
        Refusal.__init__(self, -2)


class OutOfRange(Refusal):
    def __init__(self):
        Refusal.__init__(self, -3)


class WrongList(Refusal):
    def __init__(self):
        Refusal.__init__(self, -4)


class NotForThis(Refusal):
    """What the call asks isn't there for this stock or catch."""

    def __init__(self):
        Refusal.__init__(self, -6)


class NoCatch(Refusal):
    """A told catch may not be made, or there is none where one is needed."""

    def __init__(self):
        Refusal.__init__(self, -7)


class TooManySets(Refusal):
    def __init__(self):
        Refusal.__init__(self, -8)


def need_range(number, first, last):
    if number < first or number > last:
        raise OutOfRange()


def need_list(members, shortest, longest, first, last):
    if len(members) < shortest or len(members) > longest:
        raise WrongList()
    for member in members:
        if member < first or member > last:
            raise WrongList()
