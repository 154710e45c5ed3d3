"""Growths and rules, and how long each stock is safe under them."""


class Growth:
    """What comes next of what is left, season by season."""

    def __init__(self, greatest, weights, table):
        self.greatest = greatest
        self.weights = weights
        self.table = table

    def all_stocks(self):
        return list(range(self.greatest + 1))

    def season_count(self):
        return len(self.weights)

    def next_stock(self, left, season):
        return self.table[season * (self.greatest + 1) + left]

    def next_stocks(self, left):
        return [self.next_stock(left, season) for season in range(self.season_count())]


class Rule:
    """Below low is the end; from least to most may be caught."""

    def __init__(self, low, least, most):
        self.low = low
        self.least = least
        self.most = most

    def may_be_made(self, stock, catch):
        return self.least <= catch <= self.most and catch <= stock


def keeps_safe(after, years):
    """Whether all the stocks that may come after are safe as far as years knows."""
    return all([years[stock] is None for stock in after])


def has_keeping_catch(rule, stock, keeping):
    """Whether a catch that may be made leaves what keeping says is enough."""
    first = max(0, stock - rule.most)
    # Never below 0: a negative end of a slice would count from the back.
    behind = max(0, stock - rule.least + 1)
    return True in keeping[first:behind]


def stocks_lost(rule, outcomes, years):
    """The stocks that are safe so far in years, but not for one year more."""
    keeping = [keeps_safe(after, years) for after in outcomes]
    held = [stock for stock in range(len(years)) if years[stock] is None]
    return [stock for stock in held if not has_keeping_catch(rule, stock, keeping)]


def years_of_stocks(growth, rule):
    """For each stock the least k for which it isn't safe for k years; None for a safe one."""
    stocks = growth.all_stocks()
    outcomes = [growth.next_stocks(left) for left in stocks]
    years = [0 if stock < rule.low else None for stock in stocks]
    k = 1
    lost = stocks_lost(rule, outcomes, years)
    # Once a year costs no stock, no later one does: those that are left are safe for ever.
    while len(lost) > 0:
        for stock in lost:
            years[stock] = k
        k = k + 1
        lost = stocks_lost(rule, outcomes, years)
    return years


def safe_catches(growth, rule, years, stock):
    catches = [catch for catch in range(stock + 1) if rule.may_be_made(stock, catch)]
    return [catch for catch in catches if keeps_safe(growth.next_stocks(stock - catch), years)]


def harmful_season(growth, years, stock, catch):
    """The first season that leaves fewer years than the stock has, which isn't safe."""
    after = growth.next_stocks(stock - catch)
    worse = [season for season in range(len(after)) if is_worse(years[after[season]], years[stock])]
    return worse[0]


def is_worse(later, now):
    return later is not None and later < now
