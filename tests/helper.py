"""How tests write calls, and the document's words taken at their plainest."""

import itertools

from harvestgame.stocks import answers

LOWEST = -9223372036854775808
HIGHEST = 9223372036854775807


def growth(n, weights, table):
    return [0, n, len(weights), *weights, len(table), *table]


def told():
    return [1]


def rule(low, least, most):
    return [2, low, least, most]


def ruled():
    return [3]


def next_stock(x, q, c):
    return [4, x, q, c]


def safe():
    return [5]


def quotas(x):
    return [6, x]


def most(x):
    return [7, x]


def years(x):
    return [8, x]


def harm(x, q):
    return [9, x, q]


def split(given):
    found = []
    at = 0
    while at < len(given):
        size = given[at]
        if size < 1 or at + 1 + size > len(given):
            raise AssertionError(f"no answer of {size} numbers at {at} in {given}")
        found.append(given[at + 1:at + 1 + size])
        at += 1 + size
    return found


def ask(*calls):
    """The answers to these calls on one new object, one list each."""
    found = split(answers([number for call in calls for number in call]))
    if len(found) != len(calls):
        raise AssertionError(f"{len(calls)} calls, {len(found)} answers")
    return found


def ask_last(*calls):
    return ask(*calls)[-1]


def ask_many(before, calls):
    """As ask, for any number of calls that change nothing, each list of calls begun by before."""
    found = []
    for start in range(0, len(calls), 390):
        found.extend(ask(*before, *calls[start:start + 390])[len(before):])
    return found


class Words:
    """The words of the document, with no thought given to speed."""

    def __init__(self, n, season_count, table, low, least, most_):
        self.n = n
        self.season_count = season_count
        self.table = table
        self.low = low
        self.least = least
        self.most = most_
        self.known = {}

    def comes(self, c, e):
        return self.table[c * (self.n + 1) + e]

    def catches(self, x):
        return [q for q in range(self.least, self.most + 1) if q <= x]

    def may_come(self, x, q):
        return [self.comes(c, x - q) for c in range(self.season_count)]

    def is_end(self, x):
        return x < self.low or x < self.least

    def can_be_stayed_in(self, stocks):
        return all(
            x >= self.low
            and any(all(y in stocks for y in self.may_come(x, q)) for q in self.catches(x))
            for x in stocks
        )

    def safe_by_sets(self):
        """All sets that can be stayed in, together: for a small n alone."""
        together = set()
        for size in range(self.n + 2):
            for stocks in itertools.combinations(range(self.n + 1), size):
                if self.can_be_stayed_in(set(stocks)):
                    together |= set(stocks)
        return sorted(together)

    def safe_for(self, x, k):
        if (x, k) not in self.known:
            self.known[(x, k)] = x >= self.low and (k == 0 or any(
                all(self.safe_for(y, k - 1) for y in self.may_come(x, q)) for q in self.catches(x)
            ))
        return self.known[(x, k)]

    def years(self, x):
        """None where x is safe: n + 2 years on, no more stocks are lost."""
        for k in range(self.n + 3):
            if not self.safe_for(x, k):
                return k
        return None

    def safe(self):
        return [x for x in range(self.n + 1) if self.years(x) is None]

    def quotas(self, x):
        return [q for q in self.catches(x) if all(self.years(y) is None for y in self.may_come(x, q))]

    def harm(self, x, q):
        k = self.years(x)
        for c in range(self.season_count):
            if any(not self.safe_for(self.comes(c, x - q), j) for j in range(k)):
                return c
        raise AssertionError("no season does harm")
