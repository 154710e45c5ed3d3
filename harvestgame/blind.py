"""Catches told beforehand, with no look at the stock: which sets of stocks are met by them.

A set of stocks is kept as one whole number, the sum of its stocks' marks: so two sets are put
together by one step, and are looked up by one number.
"""

from harvestgame.refusals import TooManySets

MOST_SETS = 300


def marks_of_stocks(growth):
    """1 for the stock 0, and for each other twice the one before."""
    marks = [1]
    while len(marks) <= growth.greatest:
        marks.append(2 * marks[-1])
    return marks


def set_of(marks, stocks):
    found = 0
    for stock in stocks:
        found = found | marks[stock]
    return found


class Blind:
    """The sets that may come next of a set, under a growth and a rule."""

    def __init__(self, growth, rule):
        self.rule = rule
        self.marks = marks_of_stocks(growth)
        self.outcome_sets = [set_of(self.marks, after) for after in growth.outcomes]

    def members(self, met):
        return [stock for stock in range(len(self.marks)) if met & self.marks[stock] > 0]

    def is_too_low(self, met):
        # The lowest member is at or above low just where no lower mark is in the sum.
        return met % self.marks[self.rule.low] > 0

    def set_after(self, stocks, catch):
        found = 0
        for stock in stocks:
            found = found | self.outcome_sets[stock - catch]
        return found

    def next_sets(self, met):
        """Each set once that comes of a catch which may be made and leads nowhere too low."""
        stocks = self.members(met)
        found = {}
        for catch in range(self.rule.least, min(self.rule.most, stocks[0]) + 1):
            after = self.set_after(stocks, catch)
            if not self.is_too_low(after):
                found[after] = True
        return list(found)


def sets_met(blind, first):
    """Each set that is met, with the sets that come next of it."""
    following = {}
    met = {first: True}
    waiting = [first]
    while len(waiting) > 0:
        one = waiting.pop()
        following[one] = blind.next_sets(one)
        for other in following[one]:
            if other not in met:
                met[other] = True
                waiting.append(other)
        if len(met) > MOST_SETS:
            raise TooManySets()
    return following


def sets_before(following):
    before = {}
    for one in following:
        before[one] = []
    for one in following:
        for other in following[one]:
            before[other].append(one)
    return before


def goes_on_for_ever(following, first):
    """Whether some way from the first set never comes to a set with nothing next."""
    before = sets_before(following)
    ways = {}
    for one in following:
        ways[one] = len(following[one])
    ended = [one for one in following if ways[one] == 0]
    while len(ended) > 0:
        one = ended.pop()
        for earlier in before[one]:
            ways[earlier] = ways[earlier] - 1
            if ways[earlier] == 0:
                ended.append(earlier)
    return ways[first] > 0


def can_be_blind(growth, rule, stocks):
    blind = Blind(growth, rule)
    first = set_of(blind.marks, stocks)
    if blind.is_too_low(first):
        return False
    return goes_on_for_ever(sets_met(blind, first), first)
