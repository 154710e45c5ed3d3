"""safe, quotas and most."""

import unittest

from helper import HIGHEST, LOWEST, ask, ask_last, growth, most, quotas, rule, ruled, safe, told

# A good season and a bad one: from 3 on the stock can be kept, whatever comes.
COAST = [growth(4, [1, 1], [0, 2, 4, 4, 4, 0, 1, 3, 4, 4]), rule(1, 1, 2)]
# Only 1 or 3 left grow to anything.
GAPS = [growth(4, [1], [0, 4, 0, 4, 0]), rule(1, 0, 4)]
# What is left is what comes: with something to be caught each year nothing lasts.
STILL = growth(4, [1], [0, 1, 2, 3, 4])
WIDE_STILL = growth(50, [1], list(range(51)))


class SafeTest(unittest.TestCase):
    def test_ordinary(self):
        self.assertEqual(ask_last(*COAST, safe()), [0, 3, 4])
        self.assertEqual(ask_last(*GAPS, safe()), [0, 1, 2, 3, 4])

    def test_safe_stocks_need_not_lie_together(self):
        held = [growth(3, [1], [0, 1, 2, 0]), rule(1, 0, 0)]
        self.assertEqual(ask_last(*held, safe()), [0, 1, 2])
        held = [growth(4, [1], [0, 1, 0, 3, 0]), rule(1, 0, 0)]
        self.assertEqual(ask_last(*held, safe()), [0, 1, 3])

    def test_no_safe_stock(self):
        self.assertEqual(ask_last(STILL, rule(0, 1, 4), safe()), [0])
        self.assertEqual(ask_last(WIDE_STILL, rule(0, 1, 50), safe()), [0])
        self.assertEqual(ask_last(growth(1, [1], [0, 0]), rule(1, 0, 1), safe()), [0])

    def test_every_stock_is_safe(self):
        self.assertEqual(ask_last(STILL, rule(0, 0, 4), safe()), [0, 0, 1, 2, 3, 4])
        self.assertEqual(ask_last(WIDE_STILL, rule(0, 0, 50), safe()), [0, *range(51)])
        self.assertEqual(ask_last(growth(1, [1], [1, 0]), rule(0, 0, 0), safe()), [0, 0, 1])

    def test_low_at_its_edges(self):
        self.assertEqual(ask_last(STILL, rule(0, 0, 0), safe()), [0, 0, 1, 2, 3, 4])
        self.assertEqual(ask_last(STILL, rule(4, 0, 0), safe()), [0, 4])
        self.assertEqual(ask_last(WIDE_STILL, rule(50, 0, 50), safe()), [0, 50])

    def test_least_and_most_at_their_edges(self):
        renewed = growth(4, [1], [4, 0, 0, 0, 0])
        self.assertEqual(ask_last(renewed, rule(0, 4, 4), safe()), [0, 4])
        self.assertEqual(ask_last(renewed, rule(4, 4, 4), safe()), [0, 4])
        self.assertEqual(ask_last(renewed, rule(1, 0, 0), safe()), [0])
        self.assertEqual(ask_last(renewed, rule(1, 0, 1), safe()), [0])
        self.assertEqual(ask_last(renewed, rule(1, 0, 4), safe()), [0, 1, 2, 3, 4])

    def test_one_season_of_six_is_enough(self):
        calm = [1, 1, 1, 1]
        for at in range(6):
            table = calm * at + [1, 1, 0, 0] + calm * (5 - at)
            self.assertEqual(ask_last(growth(3, [4] * 6, table), rule(1, 0, 0), safe()), [0, 1])
        self.assertEqual(ask_last(growth(3, [4] * 6, calm * 6), rule(1, 0, 0), safe()), [0, 1, 2, 3])

    def test_weights_make_no_odds(self):
        for weight in (1, 4):
            held = [growth(4, [weight, 5 - weight], [0, 2, 4, 4, 4, 0, 1, 3, 4, 4]), rule(1, 1, 2)]
            self.assertEqual(ask_last(*held, safe()), [0, 3, 4])

    def test_follows_the_rule_that_is_held(self):
        found = ask(STILL, rule(0, 0, 4), safe(), rule(2, 0, 4), safe(), rule(5, 0, 4), safe(), rule(0, 1, 4), safe())
        self.assertEqual(found[2::2], [[0, 0, 1, 2, 3, 4], [0, 2, 3, 4], [0, 2, 3, 4], [0]])

    def test_follows_the_growth_that_is_held(self):
        found = ask(STILL, rule(2, 0, 4), safe(), growth(2, [1], [2, 2, 2]), safe(), rule(2, 0, 2), safe())
        self.assertEqual(found[2:], [[0, 2, 3, 4], [0], [-2], [0], [0, 2]])


class QuotasTest(unittest.TestCase):
    def test_ordinary(self):
        self.assertEqual(ask(*COAST, quotas(3), quotas(4))[2:], [[0, 1], [0, 1, 2]])
        self.assertEqual(ask(*COAST, most(3), most(4))[2:], [[1], [2]])

    def test_safe_catches_need_not_lie_together(self):
        found = ask(*GAPS, quotas(1), quotas(2), quotas(3), quotas(4))
        self.assertEqual(found[2:], [[0, 0], [0, 1], [0, 0, 2], [0, 1, 3]])
        self.assertEqual(ask(*GAPS, most(1), most(2), most(3), most(4))[2:], [[0], [1], [2], [3]])

    def test_not_more_than_the_stock(self):
        found = ask(STILL, rule(0, 0, 4), quotas(0), quotas(2), quotas(4), most(0), most(2), most(4))
        self.assertEqual(found[2:], [[0, 0], [0, 0, 1, 2], [0, 0, 1, 2, 3, 4], [0], [2], [4]])

    def test_from_least_to_most(self):
        rich = growth(4, [1], [4] * 5)
        self.assertEqual(ask_last(rich, rule(0, 1, 3), quotas(4)), [0, 1, 2, 3])
        self.assertEqual(ask_last(rich, rule(0, 2, 2), quotas(4)), [0, 2])
        self.assertEqual(ask_last(rich, rule(0, 2, 2), most(4)), [2])
        self.assertEqual(ask_last(rich, rule(0, 4, 4), quotas(4)), [0, 4])
        self.assertEqual(ask_last(rich, rule(4, 0, 0), quotas(4)), [0, 0])

    def test_the_greatest_growth(self):
        held = [growth(50, [1] * 6, [50] * 306), rule(0, 0, 50)]
        self.assertEqual(ask(*held, quotas(50), most(50), quotas(0), most(0))[2:], [[0, *range(51)], [50], [0, 0], [0]])

    def test_stock_that_is_not_safe(self):
        for x in (0, 1, 2):
            self.assertEqual(ask(*COAST, quotas(x), most(x))[2:], [[-6], [-6]])
        self.assertEqual(ask(WIDE_STILL, rule(0, 1, 1), quotas(50), most(50))[2:], [[-6], [-6]])

    def test_stock_out_of_range(self):
        for x in (-1, 5, LOWEST, HIGHEST):
            self.assertEqual(ask(*COAST, quotas(x), most(x))[2:], [[-3], [-3]])


class SafeRefusalTest(unittest.TestCase):
    def test_order(self):
        calls = [safe(), quotas(3), most(3), quotas(HIGHEST), most(LOWEST)]
        self.assertEqual(ask(*calls), [[-1]] * 5)
        self.assertEqual(ask(COAST[0], *calls), [[0]] + [[-2]] * 5)
        self.assertEqual(ask(*COAST, *calls)[2:], [[0, 3, 4], [0, 1], [1], [-3], [-3]])

    def test_nothing_is_changed(self):
        found = ask(*COAST, quotas(1), most(1), quotas(9), most(9), safe(), quotas(4), most(4), told(), ruled(), safe())
        self.assertEqual(found[2:9], [[-6], [-6], [-3], [-3], [0, 3, 4], [0, 1, 2], [2]])
        self.assertEqual(found[9:], [[0, 4, 2, 1, 1, 0, 2, 4, 4, 4, 0, 1, 3, 4, 4], [0, 1, 1, 2], [0, 3, 4]])


if __name__ == "__main__":
    unittest.main()
