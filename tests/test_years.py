"""years and harm."""

import unittest

from helper import HIGHEST, LOWEST, ask, ask_last, growth, harm, rule, ruled, safe, told, years

# As in test_safe: 3 and 4 are safe. Season 0 is good, season 1 is bad.
COAST = [growth(4, [1, 1], [0, 2, 4, 4, 4, 0, 1, 3, 4, 4]), rule(1, 1, 2)]
STILL = growth(4, [1], [0, 1, 2, 3, 4])
WIDE_STILL = growth(50, [1], list(range(51)))


class YearsTest(unittest.TestCase):
    def test_ordinary(self):
        found = ask(*COAST, years(0), years(1), years(2), years(3), years(4))
        self.assertEqual(found[2:], [[1, 0], [1, 1], [1, 2], [0], [0]])

    def test_less_than_low_and_less_than_least(self):
        rich = growth(4, [1], [4] * 5)
        found = ask(rich, rule(2, 3, 3), years(0), years(1), years(2), years(3), years(4))
        self.assertEqual(found[2:], [[1, 0], [1, 0], [1, 1], [0], [0]])

    def test_the_catch_that_lasts_longest_counts(self):
        found = ask(STILL, rule(1, 1, 3), *[years(x) for x in range(5)])
        self.assertEqual(found[2:], [[1, 0], [1, 1], [1, 2], [1, 3], [1, 4]])

    def test_the_longest_there_is(self):
        found = ask(WIDE_STILL, rule(0, 1, 50), years(0), years(25), years(50))
        self.assertEqual(found[2:], [[1, 1], [1, 26], [1, 51]])

    def test_every_stock_safe_and_none(self):
        self.assertEqual(ask(STILL, rule(0, 0, 0), *[years(x) for x in range(5)])[2:], [[0]] * 5)
        self.assertEqual(ask(STILL, rule(4, 4, 4), years(3), years(4))[2:], [[1, 0], [1, 1]])

    def test_least_growth(self):
        least = growth(1, [1], [0, 0])
        self.assertEqual(ask(least, rule(1, 0, 0), years(0), years(1))[2:], [[1, 0], [1, 1]])
        self.assertEqual(ask(least, rule(0, 1, 1), years(0), years(1))[2:], [[1, 1], [1, 2]])

    def test_stock_out_of_range(self):
        for x in (-1, 5, LOWEST, HIGHEST):
            self.assertEqual(ask_last(*COAST, years(x)), [-3])


class HarmTest(unittest.TestCase):
    def test_ordinary(self):
        found = ask(*COAST, harm(2, 1), harm(2, 2), harm(1, 1))
        self.assertEqual(found[2:], [[1], [0], [0]])

    def test_the_first_season_and_not_the_worst(self):
        # 1 left of 3: season 0 brings 3 itself, season 1 brings 1 (years 1), season 2 brings 0 (years 0).
        held = [growth(3, [1, 1, 1], [0, 3, 2, 3, 0, 1, 2, 3, 0, 0, 2, 3]), rule(1, 1, 2)]
        self.assertEqual(ask(*held, years(0), years(1), years(2), years(3))[2:], [[1, 0], [1, 1], [1, 1], [1, 2]])
        self.assertEqual(ask(*held, harm(3, 1), harm(3, 2))[2:], [[0], [1]])

    def test_a_stock_that_lasts_as_long_is_no_harm(self):
        held = [growth(2, [1, 1], [0, 2, 2, 0, 1, 2]), rule(1, 1, 1)]
        self.assertEqual(ask(*held, years(2), harm(2, 1))[2:], [[1, 2], [1]])

    def test_the_last_of_six_seasons(self):
        calm = [0, 3, 3, 3]
        held = [growth(3, [1] * 6, calm * 5 + [0] * 4), rule(1, 0, 3)]
        self.assertEqual(ask(*held, harm(3, 0), harm(3, 3), harm(1, 0), harm(1, 1))[2:], [[5], [0], [5], [0]])

    def test_the_greatest_growth(self):
        held = [WIDE_STILL, rule(0, 1, 50)]
        self.assertEqual(ask(*held, harm(50, 1), harm(50, 50), harm(1, 1))[2:], [[0], [0], [0]])
        self.assertEqual(ask(*held, harm(50, 0), harm(0, 0), harm(50, 51), harm(51, 1))[2:], [[-6], [-6], [-3], [-3]])

    def test_stock_that_is_safe(self):
        self.assertEqual(ask(*COAST, harm(3, 1), harm(3, 2), harm(4, 1), harm(4, 4))[2:], [[-6]] * 4)

    def test_stock_less_than_low(self):
        self.assertEqual(ask(STILL, rule(3, 0, 4), harm(2, 0), harm(2, 2), harm(0, 0))[2:], [[-6]] * 3)

    def test_catch_that_may_not_be_made(self):
        held = [growth(4, [1], [0] * 5), rule(1, 2, 3)]
        found = ask(*held, harm(4, 0), harm(4, 1), harm(4, 2), harm(4, 3), harm(4, 4), harm(1, 0), harm(1, 1))
        self.assertEqual(found[2:], [[-6], [-6], [0], [0], [-6], [-6], [-6]])

    def test_out_of_range(self):
        wrong = [(-1, 0), (5, 0), (2, -1), (2, 3), (0, 1), (4, 5), (5, 5)]
        for far in (LOWEST, HIGHEST):
            wrong += [(far, 0), (2, far), (far, far)]
        for numbers in wrong:
            self.assertEqual(ask_last(*COAST, harm(*numbers)), [-3])


class YearsRefusalTest(unittest.TestCase):
    def test_order(self):
        calls = [years(2), harm(2, 1), years(HIGHEST), harm(2, LOWEST), harm(3, 4)]
        self.assertEqual(ask(*calls), [[-1]] * 5)
        self.assertEqual(ask(COAST[0], *calls), [[0]] + [[-2]] * 5)
        self.assertEqual(ask(*COAST, *calls)[2:], [[1, 2], [1], [-3], [-3], [-3]])

    def test_nothing_is_changed(self):
        found = ask(*COAST, years(9), harm(9, 9), harm(3, 1), years(2), harm(2, 1), safe(), told(), ruled())
        self.assertEqual(found[2:8], [[-3], [-3], [-6], [1, 2], [1], [0, 3, 4]])
        self.assertEqual(found[8:], [[0, 4, 2, 1, 1, 0, 2, 4, 4, 4, 0, 1, 3, 4, 4], [0, 1, 1, 2]])

    def test_follows_the_rule_that_is_held(self):
        found = ask(STILL, rule(1, 1, 1), years(4), rule(3, 1, 1), years(4), harm(4, 1), rule(0, 0, 1), years(4))
        self.assertEqual(found[2::2], [[1, 4], [1, 2], [0]])


if __name__ == "__main__":
    unittest.main()
