"""demand."""

import unittest

from helper import HIGHEST, LOWEST, Words, ask, ask_last, ask_many, demand, drawn_games, growth, rule, ruled, safe
from helper import small_games, wide_games

COAST = growth(4, [1, 1], [0, 2, 4, 4, 4, 0, 1, 3, 4, 4])
STILL = growth(4, [1], [0, 1, 2, 3, 4])
WIDE_STILL = growth(50, [1], list(range(51)))


def demands(before, n):
    return [answer[0] for answer in ask(*before, *[demand(x) for x in range(n + 1)])[len(before):]]


class DemandTest(unittest.TestCase):
    def test_ordinary(self):
        self.assertEqual(demands([COAST, rule(1, 1, 2)], 4), [-6, 0, 0, 1, 1])
        self.assertEqual(demands([COAST, rule(0, 1, 2)], 4), [0, 0, 0, 1, 1])
        self.assertEqual(demands([COAST, rule(3, 0, 4)], 4), [-6, -6, -6, 1, 1])

    def test_nought(self):
        self.assertEqual(demands([STILL, rule(0, 0, 4)], 4), [0] * 5)
        self.assertEqual(demands([WIDE_STILL, rule(0, 0, 50)], 50), [0] * 51)
        self.assertEqual(demands([STILL, rule(0, 0, 0)], 4), [0] * 5)

    def test_most(self):
        rich = growth(4, [1], [4] * 5)
        self.assertEqual(demands([rich, rule(0, 0, 4)], 4), [0, 1, 2, 3, 4])
        self.assertEqual(demands([rich, rule(0, 0, 2)], 4), [0, 1, 2, 2, 2])
        self.assertEqual(demands([rich, rule(0, 0, 0)], 4), [0] * 5)
        wide = growth(50, [1] * 6, [50] * 306)
        self.assertEqual(demands([wide, rule(0, 0, 50)], 50), list(range(51)))
        self.assertEqual(demands([wide, rule(0, 0, 49)], 50), [*range(50), 49])

    def test_none(self):
        self.assertEqual(demands([STILL, rule(3, 0, 4)], 4), [-6, -6, -6, 0, 0])
        self.assertEqual(demands([growth(2, [1], [0, 0, 0]), rule(1, 0, 2)], 2), [-6] * 3)
        self.assertEqual(demands([growth(50, [1], [0] * 51), rule(50, 0, 50)], 50), [-6] * 51)

    def test_the_least_of_the_rule_makes_no_odds(self):
        wanted = demands([COAST, rule(1, 0, 3)], 4)
        for least in (1, 2, 3):
            self.assertEqual(demands([COAST, rule(1, least, 3)], 4), wanted)

    def test_a_stock_that_is_not_safe_may_have_a_demand(self):
        found = ask(STILL, rule(0, 1, 4), safe(), demand(4), demand(0))
        self.assertEqual(found[2:], [[0], [0], [0]])

    def test_most_holds_what_a_greater_least_would_need(self):
        # Only 4 caught brings 4 back; with most at 3 it can't be.
        renewed = growth(4, [1], [4, 0, 0, 0, 0])
        self.assertEqual(demands([renewed, rule(1, 0, 4)], 4), [-6, 1, 2, 3, 4])
        self.assertEqual(demands([renewed, rule(1, 0, 3)], 4), [-6] * 5)

    def test_follows_the_rule_and_the_growth_that_are_held(self):
        rich = growth(4, [1], [4] * 5)
        found = ask(rich, rule(0, 0, 4), demand(3), rule(0, 0, 2), demand(3), rule(4, 0, 2), demand(3), STILL,
                    demand(3), rule(0, 0, 3), demand(3))
        self.assertEqual(found[2::2], [[3], [2], [-6], [-2], [0]])

    def test_the_rule_stays(self):
        found = ask(COAST, rule(1, 2, 2), demand(4), ruled(), safe(), demand(4), demand(0), ruled(), safe())
        self.assertEqual(found[2:], [[1], [0, 1, 2, 2], [0], [1], [-6], [0, 1, 2, 2], [0]])

    def test_stock_out_of_range(self):
        for wrong in (-1, 5, LOWEST, HIGHEST):
            self.assertEqual(ask_last(COAST, rule(1, 1, 2), demand(wrong)), [-3])

    def test_beside_the_words(self):
        for n, weights, table, held in [*small_games(), *drawn_games(16, 200, 9), *wide_games()]:
            words = Words(n, weights, table, *held)
            before = [growth(n, weights, table), rule(*held)]
            stocks = range(0, n + 1, 1 if n < 50 else 7)
            self.assertEqual(ask_many(before, [demand(x) for x in stocks]), [words.demand(x) for x in stocks])

    def test_beside_the_rule_that_it_speaks_of(self):
        for n, weights, table, held in drawn_games(17, 100, 9):
            grown = growth(n, weights, table)
            found = demands([grown, rule(*held)], n)
            kept = [ask_last(grown, rule(held[0], d, held[2]), safe())[1:] for d in range(held[2] + 1)]
            for x in range(n + 1):
                self.assertEqual(found[x], max([d for d in range(held[2] + 1) if x in kept[d]], default=-6))


if __name__ == "__main__":
    unittest.main()
