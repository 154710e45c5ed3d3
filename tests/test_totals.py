"""sure and mean, and point 3 of the promises."""

import unittest

from helper import HIGHEST, LOWEST, Words, ask, ask_last, ask_many, drawn_games, growth, mean, rule, small_games, sure
from helper import wide_games, years

# 3 and 4 are safe; 0, 1 and 2 are not for 0, 1 and 2 years.
COAST_TABLE = [0, 2, 4, 4, 4, 0, 1, 3, 4, 4]
COAST = [growth(4, [1, 1], COAST_TABLE), rule(1, 1, 2)]
STILL = growth(4, [1], [0, 1, 2, 3, 4])
WIDE_STILL = growth(50, [1], list(range(51)))
RICH = growth(50, [4] * 6, [50] * 306)


def sures(before, *pairs):
    return [answer[0] for answer in ask(*before, *[sure(*pair) for pair in pairs])[len(before):]]


def means(before, *pairs):
    return ask(*before, *[mean(*pair) for pair in pairs])[len(before):]


class SureTest(unittest.TestCase):
    def test_ordinary(self):
        self.assertEqual(sures(COAST, (4, 1), (3, 1), (4, 2), (3, 2), (4, 3), (3, 3)), [2, 2, 4, 3, 5, 4])

    def test_no_years(self):
        self.assertEqual(sures(COAST, (0, 0), (1, 0), (2, 0), (3, 0), (4, 0)), [-6, 0, 0, 0, 0])
        # 2 is less than least, but in no years nothing need be caught.
        self.assertEqual(sures([STILL, rule(2, 3, 4)], (1, 0), (2, 0), (2, 1)), [-6, 0, -6])

    def test_a_hundred_years(self):
        self.assertEqual(sures([RICH, rule(0, 0, 50)], (50, 100), (0, 100), (25, 100)), [5000, 4950, 4975])
        self.assertEqual(sures([RICH, rule(0, 50, 50)], (50, 100), (49, 100)), [5000, -6])
        self.assertEqual(sures([WIDE_STILL, rule(0, 0, 50)], (50, 100), (50, 99), (50, 1), (0, 100)), [50, 50, 50, 0])
        self.assertEqual(sures(COAST, (4, 100), (3, 100)), [102, 101])

    def test_years_out_of_range(self):
        for wrong in (-1, 101, LOWEST, HIGHEST):
            self.assertEqual(sures(COAST, (4, wrong), (0, wrong), (2, wrong), (9, wrong)), [-3] * 4)

    def test_stock_out_of_range(self):
        for wrong in (-1, 5, LOWEST, HIGHEST):
            self.assertEqual(sures(COAST, (wrong, 0), (wrong, 100), (wrong, 101)), [-3] * 3)

    def test_safe_for_so_many_years_and_not_for_one_more(self):
        self.assertEqual(sures(COAST, (1, 0), (1, 1), (2, 1), (2, 2), (0, 0)), [0, -6, 1, -6, -6])
        self.assertEqual(sures([STILL, rule(0, 1, 1)], (4, 4), (4, 5), (3, 3), (3, 4), (0, 0), (0, 1)), [
            4, -6, 3, -6, 0, -6,
        ])
        held = [WIDE_STILL, rule(0, 1, 50)]
        self.assertEqual(sures(held, (50, 50), (50, 51), (50, 49), (50, 100)), [50, -6, 50, -6])

    def test_the_last_stock_is_not_too_low_either(self):
        held = [STILL, rule(2, 0, 4)]
        self.assertEqual(sures(held, (4, 1), (3, 1), (2, 1), (4, 5)), [2, 1, 0, 2])

    def test_catching_less_now_may_bring_more(self):
        # What is left doubles.
        held = [growth(8, [1], [0, 2, 4, 6, 8, 8, 8, 8, 8]), rule(0, 0, 8)]
        self.assertEqual(sures(held, (1, 1), (1, 2), (1, 3), (1, 4), (1, 5)), [1, 2, 4, 8, 12])

    def test_the_worst_season_counts(self):
        held = [growth(4, [1, 4], [4, 4, 4, 4, 4, 0, 1, 2, 3, 4]), rule(0, 0, 4)]
        self.assertEqual(sures(held, (4, 1), (4, 2), (4, 9)), [4, 4, 4])

    def test_weights_make_no_odds(self):
        for weights in ([1, 4], [4, 1], [2, 3]):
            self.assertEqual(sures([growth(4, weights, COAST_TABLE), rule(1, 1, 2)], (4, 2), (3, 2)), [4, 3])

    def test_follows_the_rule_and_the_growth_that_are_held(self):
        found = ask(STILL, rule(0, 0, 4), sure(4, 3), rule(1, 0, 4), sure(4, 3), rule(0, 2, 4), sure(4, 3),
                    growth(4, [1], [4] * 5), sure(4, 3), rule(0, 0, 4), sure(4, 3))
        self.assertEqual(found[2::2], [[4], [3], [-6], [-2], [12]])

    def test_fewer_years_after_more(self):
        pairs = [(4, t) for t in (100, 0, 3, 99, 1, 100, 2, 0)]
        self.assertEqual(sures(COAST, *pairs), [102, 0, 5, 101, 2, 102, 4, 0])


class MeanTest(unittest.TestCase):
    def test_ordinary(self):
        # Of 4: catch 2, then stock 4 or 3, of either 2 caught again, since no third year comes.
        self.assertEqual(means(COAST, (4, 1), (3, 1), (4, 2), (3, 2)), [[4, 2], [4, 2], [16, 4], [12, 4]])

    def test_no_years(self):
        self.assertEqual(means(COAST, (0, 0), (1, 0), (2, 0), (4, 0)), [[-6], [0, 1], [0, 1], [0, 1]])
        self.assertEqual(means([RICH, rule(0, 0, 50)], (50, 0)), [[0, 1]])
        self.assertEqual(means([STILL, rule(2, 3, 4)], (1, 0), (2, 0), (2, 1)), [[-6], [0, 1], [-6]])

    def test_the_greatest_numbers_there_are(self):
        self.assertEqual(24 ** 9, 2641807540224)
        found = means([RICH, rule(0, 0, 50)], (50, 9), (0, 9), (50, 8))
        self.assertEqual(found, [[450 * 24 ** 9, 24 ** 9], [400 * 24 ** 9, 24 ** 9], [400 * 24 ** 8, 24 ** 8]])
        self.assertEqual(found[0], [1188813393100800, 2641807540224])

    def test_years_out_of_range(self):
        for wrong in (-1, 10, 100, LOWEST, HIGHEST):
            self.assertEqual(means(COAST, (4, wrong), (0, wrong), (2, wrong), (9, wrong)), [[-3]] * 4)

    def test_stock_out_of_range(self):
        for wrong in (-1, 5, LOWEST, HIGHEST):
            self.assertEqual(means(COAST, (wrong, 0), (wrong, 9), (wrong, 10)), [[-3]] * 3)

    def test_safe_for_so_many_years_and_not_for_one_more(self):
        self.assertEqual(means(COAST, (1, 0), (1, 1), (2, 1), (2, 2)), [[0, 1], [-6], [2, 2], [-6]])
        self.assertEqual(means([STILL, rule(0, 1, 1)], (4, 4), (4, 5)), [[4, 1], [-6]])
        held = [WIDE_STILL, rule(0, 1, 50)]
        self.assertEqual(means(held, (9, 9), (8, 9), (8, 8), (50, 9)), [[9, 1], [-6], [8, 1], [50, 1]])

    def test_weights_that_differ(self):
        # In season 0 all comes back, in season 1 what is left.
        table = [4, 4, 4, 4, 4, 0, 1, 2, 3, 4]
        for first in (1, 2, 3, 4):
            for second in (1, 2, 3, 4):
                both = first + second
                held = [growth(4, [first, second], table), rule(0, 0, 4)]
                self.assertEqual(means(held, (4, 1), (4, 2)), [[4 * both, both], [4 * both ** 2 + 4 * first * both, both ** 2]])

    def test_the_weight_of_each_season(self):
        for weights in ([1, 2, 3], [3, 1, 2], [4, 4, 1]):
            held = [growth(3, weights, [0] * 4 + [1] * 4 + [3] * 4), rule(0, 0, 3)]
            whole = sum(weights)
            wanted = (2 * whole + weights[1] + 3 * weights[2]) * whole
            self.assertEqual(means(held, (2, 2)), [[wanted, whole ** 2]])

    def test_a_season_that_is_rare_may_still_not_be_too_low(self):
        # 0 left grows to 4 in nearly all cases, but not in all; so 1 has to be left.
        held = [growth(4, [4, 4, 4, 4, 4, 1], [4] * 25 + [0, 4, 4, 4, 4]), rule(1, 0, 4)]
        self.assertEqual(means(held, (4, 1), (4, 2)), [[3 * 21, 21], [6 * 21 ** 2, 21 ** 2]])

    def test_the_mean_may_be_more_than_what_is_sure(self):
        held = [growth(4, [1, 1], [4, 4, 4, 4, 4, 0, 1, 2, 3, 4]), rule(0, 0, 4)]
        self.assertEqual(ask(*held, sure(4, 2), mean(4, 2))[2:], [[4], [24, 4]])

    def test_follows_the_rule_and_the_growth_that_are_held(self):
        found = ask(STILL, rule(0, 0, 4), mean(4, 3), rule(1, 0, 4), mean(4, 3), rule(0, 2, 4), mean(4, 3),
                    growth(4, [2], [4] * 5), mean(4, 3), rule(0, 0, 4), mean(4, 3))
        self.assertEqual(found[2::2], [[4, 1], [3, 1], [-6], [-2], [96, 8]])

    def test_fewer_years_after_more(self):
        held = [growth(4, [1, 2], [4] * 10), rule(0, 0, 4)]
        pairs = [(4, t) for t in (9, 0, 3, 8, 1, 9)]
        self.assertEqual(means(held, *pairs), [[4 * t * 3 ** t, 3 ** t] for x, t in pairs])

    def test_sure_and_mean_do_not_mix(self):
        found = ask(*COAST, sure(4, 3), mean(4, 2), sure(4, 2), mean(4, 1), sure(4, 5), mean(4, 2))
        self.assertEqual(found[2:], [[5], [16, 4], [4], [4, 2], [7], [16, 4]])


def games_of_few_ways():
    yield from small_games()
    yield from drawn_games(18, 150, 3, 2)
    yield from drawn_games(19, 60, 2, 3)
    # Seasons that differ, so that it pays to wait for them.
    yield 3, [1, 3], [0, 2, 3, 3, 0, 0, 1, 3], (0, 0, 2)
    yield 3, [4, 1], [0, 3, 3, 3, 1, 1, 2, 3], (1, 0, 2)
    yield 4, [1, 2], [0, 2, 4, 4, 4, 0, 1, 3, 4, 4], (1, 0, 1)


class PointThreeTest(unittest.TestCase):
    def test_all_runs_of_seasons_and_all_ways_to_catch(self):
        answered = 0
        apart = 0
        for n, weights, table, held in games_of_few_ways():
            words = Words(n, weights, table, *held)
            before = [growth(n, weights, table), rule(*held)]
            last = 3 if len(weights) < 3 and held[2] - held[1] < 3 else 2
            pairs = [(x, t) for x in range(n + 1) for t in range(last + 1)]
            found = zip(pairs, ask_many(before, [sure(*pair) for pair in pairs]),
                        ask_many(before, [mean(*pair) for pair in pairs]))
            for (x, t), surely, on_average in found:
                ways = words.ways(x, t)
                if not ways:
                    self.assertEqual((surely, on_average), ([-6], [-6]))
                    continue
                answered += 1
                self.it_can_be_had_and_no_more(ways, surely[0])
                self.it_is_the_greatest_mean(ways, words.run_weights(t), on_average)
                apart += surely[0] * on_average[1] != on_average[0]
        self.assertGreater(answered, 500)
        self.assertGreater(apart, 50)

    def it_can_be_had_and_no_more(self, ways, total):
        self.assertTrue(any(all(had >= total for had in way) for way in ways))
        self.assertFalse(any(all(had > total for had in way) for way in ways))

    def it_is_the_greatest_mean(self, ways, run_weights, answer):
        self.assertEqual(answer[1], sum(run_weights))
        best = max(sum(had * cases for had, cases in zip(way, run_weights)) for way in ways)
        self.assertEqual(answer[0], best)


class BesideTheWordsTest(unittest.TestCase):
    def test_drawn_games(self):
        for n, weights, table, held in drawn_games(20, 120, 10):
            self.beside(n, weights, table, held, (0, 1, 2, 5, 12, 100), range(10))

    def test_wide_games(self):
        for n, weights, table, held in wide_games():
            self.beside(n, weights, table, held, (0, 1, 30, 100), (0, 4, 9))

    def beside(self, n, weights, table, held, for_sure, for_mean):
        words = Words(n, weights, table, *held)
        before = [growth(n, weights, table), rule(*held)]
        stocks = range(n + 1) if n < 20 else (0, 1, 7, 20, 33, 49, 50)
        pairs = [(x, t) for x in stocks for t in for_sure]
        self.assertEqual(ask_many(before, [sure(*pair) for pair in pairs]), [words.sure(*pair) for pair in pairs])
        pairs = [(x, t) for x in stocks for t in for_mean]
        self.assertEqual(ask_many(before, [mean(*pair) for pair in pairs]), [words.mean(*pair) for pair in pairs])

    def test_refused_just_where_years_says(self):
        for n, weights, table, held in [*small_games(), *drawn_games(21, 60, 8)]:
            before = [growth(n, weights, table), rule(*held)]
            for x in range(n + 1):
                told = ask_last(*before, years(x))
                for t in range(10):
                    refused = told != [0] and t >= told[1]
                    found = ask(*before, sure(x, t), mean(x, t))[2:]
                    self.assertEqual([answer == [-6] for answer in found], [refused, refused])


if __name__ == "__main__":
    unittest.main()
