"""growth and told."""

import unittest

from helper import HIGHEST, LOWEST, ask, ask_last, growth, rule, ruled, told

SMALL = growth(2, [1, 4], [0, 1, 2, 2, 1, 0])
SMALL_TOLD = [0, 2, 2, 1, 4, 0, 1, 2, 2, 1, 0]


class GrowthTest(unittest.TestCase):
    def test_ordinary(self):
        self.assertEqual(ask(SMALL, told()), [[0], SMALL_TOLD])

    def test_least_growth(self):
        self.assertEqual(ask(growth(1, [1], [0, 1]), told()), [[0], [0, 1, 1, 1, 0, 1]])

    def test_greatest_growth(self):
        weights = [4, 1, 2, 3, 4, 4]
        table = [(7 * e + 11 * c) % 51 for c in range(6) for e in range(51)]
        self.assertEqual(ask(growth(50, weights, table), told()), [[0], [0, 50, 6, *weights, *table]])

    def test_each_number_of_seasons(self):
        for count in range(1, 7):
            weights = [1 + c % 4 for c in range(count)]
            table = [1, 0] * count
            self.assertEqual(ask(growth(1, weights, table), told()), [[0], [0, 1, count, *weights, *table]])

    def test_each_weight(self):
        for weight in (1, 2, 3, 4):
            self.assertEqual(ask(growth(1, [weight], [0, 1]), told())[1], [0, 1, 1, weight, 0, 1])

    def test_later_growth_takes_the_place(self):
        self.assertEqual(ask_last(SMALL, growth(1, [3], [1, 0]), told()), [0, 1, 1, 3, 1, 0])

    def test_growth_takes_the_rule_away(self):
        self.assertEqual(ask(SMALL, rule(0, 0, 1), ruled(), SMALL, ruled()), [[0], [0], [0, 0, 0, 1], [0], [-2]])

    def test_told_keeps_the_rule(self):
        self.assertEqual(ask_last(SMALL, rule(0, 1, 2), told(), ruled()), [0, 0, 1, 2])

    def test_told_without_growth(self):
        self.assertEqual(ask(told()), [[-1]])


class GrowthRefusalTest(unittest.TestCase):
    def refused(self, call, number):
        """Refused by its number alone, on a new object and on one that holds a growth and a rule."""
        self.assertEqual(ask(call, told()), [[number], [-1]])
        found = ask(SMALL, rule(1, 0, 2), call, told(), ruled())
        self.assertEqual(found[2:], [[number], SMALL_TOLD, [0, 1, 0, 2]])

    def test_greatest_stock(self):
        for n in (0, 51, -1, LOWEST, HIGHEST):
            self.refused(growth(n, [1], [0, 0]), -3)
        self.refused(growth(0, [1], [0]), -3)
        self.refused(growth(51, [1], [0] * 52), -3)

    def test_number_of_seasons(self):
        self.refused(growth(1, [], []), -4)
        self.refused(growth(1, [1] * 7, [0] * 14), -4)
        self.refused(growth(1, [1] * 320, [0] * 320), -4)
        self.refused(growth(1, [], [0, 0]), -4)

    def test_weights(self):
        for weight in (0, 5, -1, LOWEST, HIGHEST):
            self.refused(growth(1, [weight], [0, 0]), -4)
            self.refused(growth(1, [1, weight], [0, 0, 0, 0]), -4)
            self.refused(growth(1, [weight, 1], [0, 0, 0, 0]), -4)

    def test_length_of_table(self):
        for size in (0, 1, 4, 5, 7, 8, 320):
            self.refused(growth(2, [1, 1], [0] * size), -4)
        self.refused(growth(50, [1] * 6, [0] * 305), -4)
        self.refused(growth(50, [1] * 6, [0] * 307), -4)

    def test_members_of_table(self):
        for stock in (-1, 3, LOWEST, HIGHEST):
            for at in range(6):
                table = [0, 1, 2, 2, 1, 0]
                table[at] = stock
                self.refused(growth(2, [1, 4], table), -4)

    def test_range_is_looked_for_ahead_of_lists(self):
        self.refused(growth(0, [], []), -3)
        self.refused(growth(51, [9], [HIGHEST]), -3)

    def test_growth_after_a_refused_one(self):
        self.assertEqual(ask(growth(0, [1], [0]), SMALL, told()), [[-3], [0], SMALL_TOLD])


if __name__ == "__main__":
    unittest.main()
