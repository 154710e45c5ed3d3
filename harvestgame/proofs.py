"""Proofs that are handed in: that stocks are safe, and that stocks are not."""

from harvestgame.safety import stocks_leaving

# Above every rank: what is left has no stock with a rank behind it.
NO_RANK = 1001


def can_be_stayed_in(growth, rule, stocks):
    if any([stock < rule.low for stock in stocks]):
        return False
    inside = [False for stock in growth.all_stocks()]
    for stock in stocks:
        inside[stock] = True
    return len(stocks_leaving(growth, rule, inside)) == 0


def lowest_rank(after, ranks):
    """The lowest rank that some season brings, 0 not counted."""
    return min([ranks[stock] for stock in after if ranks[stock] > 0], default=NO_RANK)


def rank_holds(rule, lowest, stock, rank):
    if rank == 0:
        return True
    if rank == 1:
        return stock < rule.low
    # Where no catch may be made there is none that could refute the rank.
    return max(rule.of_lefts(lowest, stock), default=0) < rank


def ranks_hold(growth, rule, ranks):
    lowest = [lowest_rank(after, ranks) for after in growth.outcomes]
    return all([rank_holds(rule, lowest, stock, ranks[stock]) for stock in growth.all_stocks()])
