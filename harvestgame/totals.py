"""How much can be caught together in so many years: for sure, and on average.

A row tells the best total of each stock, or None where the stock isn't safe for so many years.
"""


def row_of_no_years(growth, rule):
    return [None if stock < rule.low else 0 for stock in growth.all_stocks()]


def greatest_known(totals):
    return max([total for total in totals if total is not None], default=None)


def best_row(rule, unit, later):
    """The row of one year more; later tells what is had behind this year, by what is left in it."""
    # A catch is the stock less what is left: so what each left is worth is the same for all stocks.
    worth = [None if later[left] is None else later[left] - unit * left for left in range(len(later))]
    row = []
    for stock in range(len(later)):
        best = None if stock < rule.low else greatest_known(rule.of_lefts(worth, stock))
        row.append(None if best is None else best + unit * stock)
    return row


def sure_later(row, after):
    totals = [row[stock] for stock in after]
    return None if None in totals else min(totals)


def next_sure_row(growth, rule, row):
    return best_row(rule, 1, [sure_later(row, after) for after in growth.outcomes])


def mean_later(row, after, weights):
    totals = [row[stock] for stock in after]
    if None in totals:
        return None
    return sum([weight * total for weight, total in zip(weights, totals)])


def next_mean_row(growth, rule, unit, row):
    """Of means as many times as there are cases; unit is how many there are with this year."""
    return best_row(rule, unit, [mean_later(row, after, growth.weights) for after in growth.outcomes])


def case_count(weights, years):
    cases = 1
    for year in range(years):
        cases = cases * sum(weights)
    return cases
