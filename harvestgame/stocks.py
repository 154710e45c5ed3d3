"""The calls, and what each answers."""

from harvestgame.reader import Reader
from harvestgame.refusals import NoGrowth
from harvestgame.refusals import NoRule
from harvestgame.refusals import NoSuchCall
from harvestgame.refusals import NotForThis
from harvestgame.refusals import Refusal
from harvestgame.refusals import need_list
from harvestgame.refusals import need_range
from harvestgame.safety import Growth
from harvestgame.safety import Rule
from harvestgame.safety import harmful_season
from harvestgame.safety import safe_catches
from harvestgame.safety import years_of_stocks

# The calls that can be done without a rule.
WITHOUT_RULE = (0, 1, 2, 4, 18)


class Harvest:
    """What is held from call to call."""

    def __init__(self):
        self.growth = None
        self.rule = None
        self.years = None

    def hold_growth(self, growth):
        self.growth = growth
        self.rule = None
        self.years = None

    def hold_rule(self, rule):
        self.rule = rule
        # Worked out here once, since many calls on one rule ask for it.
        self.years = years_of_stocks(self.growth, rule)

    def is_safe(self, stock):
        return self.years[stock] is None


def need_stock(harvest, stock):
    need_range(stock, 0, harvest.growth.greatest)


def need_safe_stock(harvest, stock):
    need_stock(harvest, stock)
    if not harvest.is_safe(stock):
        raise NotForThis()


def answer_growth(harvest, call):
    greatest = call.wholes[0]
    weights = call.rows[0]
    table = call.rows[1]
    need_range(greatest, 1, 50)
    need_list(weights, 1, 6, 1, 4)
    size = len(weights) * (greatest + 1)
    need_list(table, size, size, 0, greatest)
    harvest.hold_growth(Growth(greatest, weights, table))
    return [0]


def answer_told(harvest, call):
    growth = harvest.growth
    return [0, growth.greatest, growth.season_count()] + growth.weights + growth.table


def answer_rule(harvest, call):
    low = call.wholes[0]
    least = call.wholes[1]
    most = call.wholes[2]
    need_stock(harvest, low)
    need_stock(harvest, least)
    need_range(most, least, harvest.growth.greatest)
    harvest.hold_rule(Rule(low, least, most))
    return [0]


def answer_ruled(harvest, call):
    rule = harvest.rule
    return [0, rule.low, rule.least, rule.most]


def answer_next(harvest, call):
    stock = call.wholes[0]
    catch = call.wholes[1]
    season = call.wholes[2]
    need_stock(harvest, stock)
    need_range(catch, 0, stock)
    need_range(season, 0, harvest.growth.season_count() - 1)
    return [harvest.growth.next_stock(stock - catch, season)]


def answer_safe(harvest, call):
    stocks = harvest.growth.all_stocks()
    return [0] + [stock for stock in stocks if harvest.is_safe(stock)]


def answer_quotas(harvest, call):
    stock = call.wholes[0]
    need_safe_stock(harvest, stock)
    return [0] + safe_catches(harvest.growth, harvest.rule, harvest.years, stock)


def answer_most(harvest, call):
    stock = call.wholes[0]
    need_safe_stock(harvest, stock)
    return [max(safe_catches(harvest.growth, harvest.rule, harvest.years, stock))]


def answer_years(harvest, call):
    stock = call.wholes[0]
    need_stock(harvest, stock)
    if harvest.is_safe(stock):
        return [0]
    return [1, harvest.years[stock]]


def answer_harm(harvest, call):
    stock = call.wholes[0]
    catch = call.wholes[1]
    need_stock(harvest, stock)
    need_range(catch, 0, stock)
    if harvest.is_safe(stock) or stock < harvest.rule.low:
        raise NotForThis()
    if not harvest.rule.may_be_made(stock, catch):
        raise NotForThis()
    return [harmful_season(harvest.growth, harvest.years, stock, catch)]


ANSWERERS = {
    0: answer_growth,
    1: answer_told,
    2: answer_rule,
    3: answer_ruled,
    4: answer_next,
    5: answer_safe,
    6: answer_quotas,
    7: answer_most,
    8: answer_years,
    9: answer_harm,
}


def answer_call(harvest, call):
    if call.number not in ANSWERERS:
        raise NoSuchCall()
    if harvest.growth is None and call.number != 0:
        raise NoGrowth()
    if harvest.rule is None and call.number not in WITHOUT_RULE:
        raise NoRule()
    answerer = ANSWERERS[call.number]
    return answerer(harvest, call)


def answer_or_refusal(harvest, call):
    try:
        return answer_call(harvest, call)
    except Refusal as e:
        return [e.number]


def answers(calls):
    """What each call answers, in order, with how many numbers it has before it."""
    harvest = Harvest()
    reader = Reader(calls)
    given = []
    while not reader.is_done():
        answer = answer_or_refusal(harvest, reader.take_call())
        given.append(len(answer))
        given.extend(answer)
    return given
