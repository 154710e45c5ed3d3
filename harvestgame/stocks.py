"""The calls, and what each answers."""

from harvestgame.blind import can_be_blind
from harvestgame.harvest import Harvest
from harvestgame.proofs import can_be_stayed_in
from harvestgame.proofs import ranks_hold
from harvestgame.reader import Reader
from harvestgame.refusals import NoGrowth
from harvestgame.refusals import NoRule
from harvestgame.refusals import NotForThis
from harvestgame.refusals import Refusal
from harvestgame.refusals import need_list
from harvestgame.refusals import need_range
from harvestgame.runs import run_of_catches
from harvestgame.runs import run_of_seasons
from harvestgame.safety import Growth
from harvestgame.safety import Rule
from harvestgame.safety import harmful_season
from harvestgame.safety import is_rising
from harvestgame.safety import safe_catches

# The calls that can be done without a rule.
WITHOUT_RULE = (0, 1, 2, 4, 18)


def need_stock(harvest, stock):
    need_range(stock, 0, harvest.growth.greatest)


def need_stock_list(harvest, stocks, shortest, longest):
    need_list(stocks, shortest, longest, 0, harvest.growth.greatest)


def need_safe(harvest, stock):
    if not harvest.safe[stock]:
        raise NotForThis()


def known(number):
    """The number that was looked for; a refusal where none was found."""
    if number is None:
        raise NotForThis()
    return number


def yes_or_no(held):
    return 1 if held else 0


def quotas_of(harvest, stock):
    return safe_catches(harvest.growth, harvest.rule, harvest.safe, stock)


def answer_growth(harvest, call):
    greatest = call.wholes[0]
    weights = call.rows[0]
    table = call.rows[1]
    need_range(greatest, 1, 50)
    need_list(weights, 1, 6, 1, 4)
    size = len(weights) * (greatest + 1)
    need_list(table, size, size, 0, greatest)
    harvest.hold_growth(Growth(greatest, weights, table))
    return [0]


def answer_told(harvest, call):
    growth = harvest.growth
    return [0, growth.greatest, growth.season_count()] + growth.weights + growth.table


def answer_rule(harvest, call):
    low = call.wholes[0]
    least = call.wholes[1]
    most = call.wholes[2]
    need_stock(harvest, low)
    need_stock(harvest, least)
    need_range(most, least, harvest.growth.greatest)
    harvest.hold_rule(Rule(low, least, most))
    return [0]


def answer_ruled(harvest, call):
    rule = harvest.rule
    return [0, rule.low, rule.least, rule.most]


def answer_next(harvest, call):
    stock = call.wholes[0]
    catch = call.wholes[1]
    season = call.wholes[2]
    need_stock(harvest, stock)
    need_range(catch, 0, stock)
    need_range(season, 0, harvest.growth.season_count() - 1)
    return [harvest.growth.next_stock(stock - catch, season)]


def answer_safe(harvest, call):
    stocks = harvest.growth.all_stocks()
    return [0] + [stock for stock in stocks if harvest.safe[stock]]


def answer_quotas(harvest, call):
    stock = call.wholes[0]
    need_stock(harvest, stock)
    need_safe(harvest, stock)
    return [0] + quotas_of(harvest, stock)


def answer_most(harvest, call):
    stock = call.wholes[0]
    need_stock(harvest, stock)
    need_safe(harvest, stock)
    return [max(quotas_of(harvest, stock))]


def answer_years(harvest, call):
    stock = call.wholes[0]
    need_stock(harvest, stock)
    if harvest.safe[stock]:
        return [0]
    return [1, harvest.years[stock]]


def answer_harm(harvest, call):
    stock = call.wholes[0]
    catch = call.wholes[1]
    need_stock(harvest, stock)
    need_range(catch, 0, stock)
    if harvest.safe[stock] or stock < harvest.rule.low:
        raise NotForThis()
    if not harvest.rule.may_be_made(stock, catch):
        raise NotForThis()
    return [harmful_season(harvest.growth, harvest.years, stock, catch)]


def answer_check(harvest, call):
    stocks = call.rows[0]
    need_stock_list(harvest, stocks, 0, 51)
    return [yes_or_no(can_be_stayed_in(harvest.growth, harvest.rule, stocks))]


def answer_refute(harvest, call):
    ranks = call.rows[0]
    size = harvest.growth.greatest + 1
    need_list(ranks, size, size, 0, 1000)
    return [yes_or_no(ranks_hold(harvest.growth, harvest.rule, ranks))]


def answer_play(harvest, call):
    stock = call.wholes[0]
    seasons = call.rows[0]
    need_stock(harvest, stock)
    need_list(seasons, 0, 200, 0, harvest.growth.season_count() - 1)
    need_safe(harvest, stock)
    return [0] + run_of_seasons(harvest.growth, harvest.rule, harvest.safe, stock, seasons)


def answer_force(harvest, call):
    stock = call.wholes[0]
    catches = call.rows[0]
    need_stock(harvest, stock)
    need_stock_list(harvest, catches, 0, 200)
    if harvest.safe[stock]:
        raise NotForThis()
    return [0] + run_of_catches(harvest.growth, harvest.rule, harvest.years, stock, catches)


def answer_demand(harvest, call):
    stock = call.wholes[0]
    need_stock(harvest, stock)
    return [known(harvest.demand(stock))]


def answer_sure(harvest, call):
    stock = call.wholes[0]
    years = call.wholes[1]
    need_stock(harvest, stock)
    need_range(years, 0, 100)
    return [known(harvest.sure_total(stock, years))]


def answer_mean(harvest, call):
    stock = call.wholes[0]
    years = call.wholes[1]
    need_stock(harvest, stock)
    need_range(years, 0, 9)
    return [known(harvest.mean_total(stock, years)), harvest.cases(years)]


def answer_blind(harvest, call):
    stocks = call.rows[0]
    need_stock_list(harvest, stocks, 1, 51)
    return [yes_or_no(can_be_blind(harvest.growth, harvest.rule, stocks))]


def answer_rising(harvest, call):
    return [yes_or_no(is_rising(harvest.growth))]


ANSWERERS = {
    0: answer_growth,
    1: answer_told,
    2: answer_rule,
    3: answer_ruled,
    4: answer_next,
    5: answer_safe,
    6: answer_quotas,
    7: answer_most,
    8: answer_years,
    9: answer_harm,
    10: answer_check,
    11: answer_refute,
    12: answer_play,
    13: answer_force,
    14: answer_demand,
    15: answer_sure,
    16: answer_mean,
    17: answer_blind,
    18: answer_rising,
}


def answer_call(harvest, call):
    if harvest.growth is None and call.number != 0:
        raise NoGrowth()
    if harvest.rule is None and call.number not in WITHOUT_RULE:
        raise NoRule()
    answerer = ANSWERERS[call.number]
    return answerer(harvest, call)


def answer_or_refusal(harvest, call):
    try:
        return answer_call(harvest, call)
    except Refusal as e:
        return [e.number]


def answers(calls):
    """What each call answers, in order, with how many numbers it has before it."""
    harvest = Harvest()
    reader = Reader(calls)
    given = []
    while not reader.is_done():
        answer = answer_or_refusal(harvest, reader.take_call())
        given.append(len(answer))
        given.extend(answer)
    return given
