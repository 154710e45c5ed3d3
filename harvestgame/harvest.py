"""What is held from call to call."""

from harvestgame.safety import demands_of_stocks
from harvestgame.safety import years_of_stocks
from harvestgame.totals import case_count
from harvestgame.totals import next_mean_row
from harvestgame.totals import next_sure_row
from harvestgame.totals import row_of_no_years


class Harvest:
    """A growth and a rule, if there are any, and what has been worked out of them."""

    def __init__(self):
        self.growth = None
        self.forget_rule()

    def forget_rule(self):
        self.rule = None
        self.years = None
        self.safe = None
        self.demands = None
        self.sure_rows = None
        self.mean_rows = None

    def hold_growth(self, growth):
        self.growth = growth
        self.forget_rule()

    def hold_rule(self, rule):
        # Worked out once for a rule, since many calls may ask for it: the years here at once, the
        # demands when first asked for, the rows as far as they are asked for.
        self.rule = rule
        self.years = years_of_stocks(self.growth, rule)
        self.safe = [years is None for years in self.years]
        self.demands = None
        self.sure_rows = [row_of_no_years(self.growth, rule)]
        self.mean_rows = [row_of_no_years(self.growth, rule)]

    def demand(self, stock):
        if self.demands is None:
            self.demands = demands_of_stocks(self.growth, self.rule)
        return self.demands[stock]

    def sure_total(self, stock, years):
        while len(self.sure_rows) <= years:
            self.sure_rows.append(next_sure_row(self.growth, self.rule, self.sure_rows[-1]))
        return self.sure_rows[years][stock]

    def cases(self, years):
        return case_count(self.growth.weights, years)

    def mean_total(self, stock, years):
        """The greatest mean, as many times as there are cases."""
        while len(self.mean_rows) <= years:
            unit = self.cases(len(self.mean_rows))
            self.mean_rows.append(next_mean_row(self.growth, self.rule, unit, self.mean_rows[-1]))
        return self.mean_rows[years][stock]
