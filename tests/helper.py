"""How tests write calls, and the document's words taken at their plainest."""

import itertools
import random

from harvestgame.stocks import answers

LOWEST = -9223372036854775808
HIGHEST = 9223372036854775807


def growth(n, weights, table):
    return [0, n, len(weights), *weights, len(table), *table]


def told():
    return [1]


def rule(low, least, most):
    return [2, low, least, most]


def ruled():
    return [3]


def next_stock(x, q, c):
    return [4, x, q, c]


def safe():
    return [5]


def quotas(x):
    return [6, x]


def most(x):
    return [7, x]


def years(x):
    return [8, x]


def harm(x, q):
    return [9, x, q]


def check(stocks):
    return [10, len(stocks), *stocks]


def refute(ranks):
    return [11, len(ranks), *ranks]


def play(x, seasons):
    return [12, x, len(seasons), *seasons]


def force(x, catches):
    return [13, x, len(catches), *catches]


def demand(x):
    return [14, x]


def sure(x, t):
    return [15, x, t]


def mean(x, t):
    return [16, x, t]


def blind(stocks):
    return [17, len(stocks), *stocks]


def rising():
    return [18]


def flat(calls):
    return [number for call in calls for number in call]


def split(given):
    found = []
    at = 0
    while at < len(given):
        size = given[at]
        if size < 1 or at + 1 + size > len(given):
            raise AssertionError(f"no answer of {size} numbers at {at} in {given}")
        found.append(given[at + 1:at + 1 + size])
        at += 1 + size
    return found


def ask(*calls):
    """The answers to these calls on one new object, one list each."""
    found = split(answers(flat(calls)))
    if len(found) != len(calls):
        raise AssertionError(f"{len(calls)} calls, {len(found)} answers")
    return found


def ask_last(*calls):
    return ask(*calls)[-1]


def ask_many(before, calls):
    """As ask, for any number of calls that change nothing, each list of calls begun by before."""
    found = []
    for start in range(0, len(calls), 390):
        found.extend(ask(*before, *calls[start:start + 390])[len(before):])
    return found


def weights_of(count):
    return [1 + c % 4 for c in range(count)]


def rules_up_to(n):
    return [(low, least, top) for low in range(n + 1) for least in range(n + 1) for top in range(least, n + 1)]


def small_games():
    """Every growth of so few stocks and seasons, under every rule."""
    for n, count in ((1, 1), (1, 2), (2, 1)):
        for table in itertools.product(range(n + 1), repeat=count * (n + 1)):
            for held in rules_up_to(n):
                yield n, weights_of(count), list(table), held


def drawn_rule(draw, n):
    least = draw.randint(0, n)
    # Games in which little need be caught are those that last.
    least = min(least, draw.randint(0, n), draw.randint(0, n))
    return draw.randint(0, n) if draw.random() < 0.3 else draw.randint(0, n // 3), least, draw.randint(least, n)


def drawn_table(draw, n, count):
    """Now any stocks, now such as grow somewhat from what is left."""
    if draw.random() < 0.4:
        return [draw.randint(0, n) for k in range(count * (n + 1))]
    return [max(0, min(n, e + draw.randint(-1, 3))) for c in range(count) for e in range(n + 1)]


def drawn_games(seed, many, greatest, most_seasons=6):
    draw = random.Random(seed)
    for k in range(many):
        n = draw.randint(1, greatest)
        count = draw.randint(1, most_seasons)
        yield n, [draw.randint(1, 4) for c in range(count)], drawn_table(draw, n, count), drawn_rule(draw, n)


def rising_games(seed, many, greatest):
    draw = random.Random(seed)
    for k in range(many):
        n = draw.randint(1, greatest)
        count = draw.randint(1, 6)
        rows = [sorted(drawn_table(draw, n, 1)) for c in range(count)]
        yield n, weights_of(count), [stock for row in rows for stock in row], drawn_rule(draw, n)


def wide_games():
    """The greatest growths: caught from more slowly than they grow, and faster."""
    slow = [min(50, e + e // 8) for e in range(51)]
    fast = [min(50, e + e // 3) for e in range(51)]
    still = list(range(51))
    for held in ((5, 2, 9), (0, 1, 50), (20, 0, 50), (0, 4, 4), (50, 0, 3), (10, 50, 50), (7, 3, 5)):
        yield 50, weights_of(2), fast + slow, held
        yield 50, weights_of(6), fast + slow + fast + slow + fast + still, held


class Words:
    """The words of the document, with no thought given to speed."""

    def __init__(self, n, weights, table, low, least, most_):
        self.n = n
        self.weights = weights
        self.season_count = len(weights)
        self.table = table
        self.low = low
        self.least = least
        self.most = most_
        self.known = {}
        self.known_totals = {}

    def comes(self, c, e):
        return self.table[c * (self.n + 1) + e]

    def catches(self, x):
        return [q for q in range(self.least, self.most + 1) if q <= x]

    def may_come(self, x, q):
        return [self.comes(c, x - q) for c in range(self.season_count)]

    def is_end(self, x):
        return x < self.low or x < self.least

    def can_be_stayed_in(self, stocks):
        return all(
            x >= self.low
            and any(all(y in stocks for y in self.may_come(x, q)) for q in self.catches(x))
            for x in stocks
        )

    def safe_by_sets(self):
        """All sets that can be stayed in, together: for a small n alone."""
        together = set()
        for size in range(self.n + 2):
            for stocks in itertools.combinations(range(self.n + 1), size):
                if self.can_be_stayed_in(set(stocks)):
                    together |= set(stocks)
        return sorted(together)

    def safe_for(self, x, k):
        if (x, k) not in self.known:
            self.known[(x, k)] = x >= self.low and (k == 0 or any(
                all(self.safe_for(y, k - 1) for y in self.may_come(x, q)) for q in self.catches(x)
            ))
        return self.known[(x, k)]

    def years(self, x):
        """None where x is safe: n + 2 years on, no more stocks are lost."""
        for k in range(self.n + 3):
            if not self.safe_for(x, k):
                return k
        return None

    def safe(self):
        return [x for x in range(self.n + 1) if self.years(x) is None]

    def quotas(self, x):
        return [q for q in self.catches(x) if all(self.years(y) is None for y in self.may_come(x, q))]

    def harm(self, x, q):
        k = self.years(x)
        for c in range(self.season_count):
            if any(not self.safe_for(self.comes(c, x - q), j) for j in range(k)):
                return c
        raise AssertionError("no season does harm")

    def refutes(self, ranks):
        for x in range(self.n + 1):
            a = ranks[x]
            if a == 1 and x >= self.low:
                return False
            if a > 1:
                for q in self.catches(x):
                    if not any(1 <= ranks[y] <= a - 1 for y in self.may_come(x, q)):
                        return False
        return True

    def play(self, x, seasons):
        made = []
        for c in seasons:
            made.append(max(self.quotas(x)))
            x = self.comes(c, x - made[-1])
        return [0, *made, x]

    def force(self, x, catches):
        came = []
        for q in catches:
            if self.is_end(x):
                break
            if q not in self.catches(x):
                return [-7]
            came.append(self.harm(x, q))
            x = self.comes(came[-1], x - q)
        return [0, *came] if self.is_end(x) else [-7]

    def demand(self, x):
        good = [
            d for d in range(self.most + 1)
            if Words(self.n, self.weights, self.table, self.low, d, self.most).years(x) is None
        ]
        return [max(good)] if good else [-6]

    def ways(self, x, t):
        """All ways to catch for t years: of each the totals, one for each run of seasons there can be."""
        if x < self.low:
            return set()
        if t == 0:
            return {(0,)}
        found = set()
        for q in self.catches(x):
            for later in itertools.product(*[self.ways(y, t - 1) for y in self.may_come(x, q)]):
                found.add(tuple(q + total for totals in later for total in totals))
        return found

    def run_weights(self, t):
        """In how many of all cases each run of seasons comes, in the order of ways."""
        counts = [1]
        for k in range(t):
            counts = [weight * count for weight in self.weights for count in counts]
        return counts

    def best_total(self, x, t, together):
        """None where x isn't safe for t years; together says what comes of the totals of the seasons."""
        if (x, t, together) not in self.known_totals:
            best = None
            if x >= self.low and t == 0:
                best = 0
            elif x >= self.low:
                for q in self.catches(x):
                    later = [self.best_total(y, t - 1, together) for y in self.may_come(x, q)]
                    if None not in later:
                        total = together(self, q, t, later)
                        best = total if best is None else max(best, total)
            self.known_totals[(x, t, together)] = best
        return self.known_totals[(x, t, together)]

    def surely(self, q, t, later):
        return q + min(later)

    def on_average(self, q, t, later):
        return q * sum(self.weights) ** t + sum(weight * total for weight, total in zip(self.weights, later))

    def sure(self, x, t):
        total = self.best_total(x, t, Words.surely)
        return [-6] if total is None else [total]

    def mean(self, x, t):
        total = self.best_total(x, t, Words.on_average)
        return [-6] if total is None else [total, sum(self.weights) ** t]

    def sets_after(self, stocks):
        """By each catch that can be made unseen, with nothing too low behind it, the set that comes."""
        after = {}
        for q in range(self.least, self.most + 1):
            if all(q in self.catches(x) for x in stocks):
                come = frozenset(y for x in stocks for y in self.may_come(x, q))
                if all(y >= self.low for y in come):
                    after[q] = come
        return after

    def met_sets(self, stocks, enough=302):
        """The sets that are met, or the first so many of them."""
        if any(x < self.low for x in stocks):
            return []
        met = [frozenset(stocks)]
        for one in met:
            for come in self.sets_after(one).values():
                if come not in met and len(met) < enough:
                    met.append(come)
        return met

    def lasting_sets(self, met):
        lasting = list(met)
        while True:
            rest = [one for one in lasting if any(come in lasting for come in self.sets_after(one).values())]
            if rest == lasting:
                return rest
            lasting = rest

    def blind(self, stocks):
        met = self.met_sets(stocks)
        if len(met) > 300:
            return [-8]
        return [int(frozenset(stocks) in self.lasting_sets(met))]

    def rising(self):
        return all(
            self.comes(c, e) <= self.comes(c, more)
            for c in range(self.season_count) for e in range(self.n + 1) for more in range(e, self.n + 1)
        )
