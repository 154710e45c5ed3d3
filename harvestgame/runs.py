"""Runs of years: with told seasons against safe catches, with told catches against harm."""

from harvestgame.refusals import NoCatch
from harvestgame.safety import harmful_season
from harvestgame.safety import safe_catches


def run_of_seasons(growth, rule, safe, stock, seasons):
    """The greatest safe catch of each year, and then the stock that is there at last."""
    made = []
    for season in seasons:
        catch = max(safe_catches(growth, rule, safe, stock))
        made.append(catch)
        stock = growth.next_stock(stock - catch, season)
    return made + [stock]


def has_ended(rule, stock):
    return stock < rule.low or stock < rule.least


def run_of_catches(growth, rule, years, stock, catches):
    """The seasons that do harm, year by year till the end."""
    came = []
    while not has_ended(rule, stock):
        if len(came) == len(catches):
            raise NoCatch()
        catch = catches[len(came)]
        if not rule.may_be_made(stock, catch):
            raise NoCatch()
        season = harmful_season(growth, years, stock, catch)
        came.append(season)
        stock = growth.next_stock(stock - catch, season)
    return came
