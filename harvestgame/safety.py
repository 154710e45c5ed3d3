"""Growths and rules, and how long each stock is safe under them."""


class Growth:
    """What comes next of what is left, season by season."""

    def __init__(self, greatest, weights, table):
        self.greatest = greatest
        self.weights = weights
        self.table = table
        # By what is left the stocks that may come, a season each: nearly every call asks for these.
        self.outcomes = [self.next_stocks(left) for left in range(greatest + 1)]

    def all_stocks(self):
        return list(range(self.greatest + 1))

    def season_count(self):
        return len(self.weights)

    def season_row(self, season):
        size = self.greatest + 1
        return self.table[season * size:(season + 1) * size]

    def next_stock(self, left, season):
        return self.table[season * (self.greatest + 1) + left]

    def next_stocks(self, left):
        return [self.next_stock(left, season) for season in range(self.season_count())]


class Rule:
    """Below low is the end; from least to most may be caught."""

    def __init__(self, low, least, most):
        self.low = low
        self.least = least
        self.most = most

    def may_be_made(self, stock, catch):
        return self.least <= catch <= self.most and catch <= stock

    def of_lefts(self, row, stock):
        """Of a row that tells something of each left, what it tells of those that may be left of stock."""
        first = max(0, stock - self.most)
        # Never below 0: a negative end of a slice would count from the back.
        behind = max(0, stock - self.least + 1)
        return row[first:behind]


def is_rising(growth):
    rows = [growth.season_row(season) for season in range(growth.season_count())]
    return all([row == sorted(row) for row in rows])


def is_within(after, inside):
    """Whether all the stocks that may come after are inside."""
    return all([inside[stock] for stock in after])


def not_too_low(growth, rule):
    return [stock >= rule.low for stock in growth.all_stocks()]


def stocks_leaving(growth, rule, inside):
    """The stocks inside of which no catch keeps the next stock inside, whatever season comes."""
    keeping = [is_within(after, inside) for after in growth.outcomes]
    held = [stock for stock in growth.all_stocks() if inside[stock]]
    return [stock for stock in held if True not in rule.of_lefts(keeping, stock)]


def years_of_stocks(growth, rule):
    """For each stock the least k for which it isn't safe for k years; None for a safe one."""
    inside = not_too_low(growth, rule)
    years = [None if held else 0 for held in inside]
    k = 1
    lost = stocks_leaving(growth, rule, inside)
    # Once a year costs no stock, no later one does: those that are left are safe for ever.
    while len(lost) > 0:
        for stock in lost:
            inside[stock] = False
            years[stock] = k
        k = k + 1
        lost = stocks_leaving(growth, rule, inside)
    return years


def part_to_stay_in(growth, rule, inside):
    """The greatest part of what is inside that can be stayed in."""
    part = list(inside)
    lost = stocks_leaving(growth, rule, part)
    while len(lost) > 0:
        for stock in lost:
            part[stock] = False
        lost = stocks_leaving(growth, rule, part)
    return part


def demands_of_stocks(growth, rule):
    """For each stock the greatest least under which it would be safe; None where there is none."""
    inside = not_too_low(growth, rule)
    demands = [None for stock in growth.all_stocks()]
    for least in range(rule.most + 1):
        # What is safe under more is safe under less, so no stock that is out comes in again.
        inside = part_to_stay_in(growth, Rule(rule.low, least, rule.most), inside)
        demands = [least if inside[stock] else demands[stock] for stock in growth.all_stocks()]
    return demands


def safe_catches(growth, rule, safe, stock):
    catches = [catch for catch in range(stock + 1) if rule.may_be_made(stock, catch)]
    return [catch for catch in catches if is_within(growth.outcomes[stock - catch], safe)]


def harmful_season(growth, years, stock, catch):
    """The first season that leaves fewer years than the stock has, which isn't safe."""
    after = growth.outcomes[stock - catch]
    worse = [season for season in range(len(after)) if is_worse(years[after[season]], years[stock])]
    return worse[0]


def is_worse(later, now):
    return later is not None and later < now
