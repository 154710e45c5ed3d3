"""The longest inputs with the dearest calls: answered rightly, in reasonable time, with nothing changed or kept."""

import time
import unittest

from harvestgame.stocks import answers
from helper import HIGHEST, Words, blind, check, demand, flat, force, growth, mean, play, refute, rule, split, sure

MOST_NUMBERS = 16000
MOST_CALLS = 400
# Far more than is needed, so that a slow machine alone never fails.
SECONDS = 60

STILL = growth(50, [4] * 6, list(range(51)) * 6)
RICH = growth(50, [4] * 6, [50] * 306)


def rounds():
    """Stocks from 28 on go round in rounds of 3, 7 and 13, 27 stays, and what is lower goes to 0.

    So of a wide set with 27 in it 273 sets are met, and of each 28 catches may be made, of which 27 lead to 0.
    """
    table = [0] * 27 + [27] + [0] * 23
    first = 28
    for size in (3, 7, 13):
        for k in range(size):
            table[first + k] = first + (k + 1) % size
        first += size
    return growth(50, [1] * 6, table * 6), [x for x in range(27, 51) if x not in (30, 37, 50)]


class LongestTest(unittest.TestCase):
    def answered(self, calls):
        """The answers to as many of these as there may be, in reasonable time."""
        line = []
        for call in calls[:MOST_CALLS]:
            if len(line) + len(call) > MOST_NUMBERS:
                break
            line += call
        before = list(line)
        begun = time.monotonic()
        given = answers(line)
        self.assertLess(time.monotonic() - begun, SECONDS)
        self.assertEqual(line, before)
        return split(given)

    def test_a_new_rule_and_a_hundred_years_each_time(self):
        for grown, wanted in ((STILL, [50]), (RICH, [5000])):
            found = self.answered([grown] + [rule(0, 0, 50), sure(50, 100)] * 200)
            self.assertEqual(found[2::2], [wanted] * 199)

    def test_a_new_rule_and_a_demand_each_time(self):
        for grown, wanted in ((STILL, [0]), (RICH, [50])):
            found = self.answered([grown] + [rule(0, 1, 50), demand(50)] * 200)
            self.assertEqual(found[2::2], [wanted] * 199)

    def test_a_new_rule_and_a_mean_each_time(self):
        found = self.answered([RICH] + [rule(0, 0, 50), mean(50, 9)] * 200)
        self.assertEqual(found[2::2], [[450 * 24 ** 9, 24 ** 9]] * 199)

    def test_as_many_years_each_time(self):
        pairs = [(x % 51, x % 101) for x in range(398)]
        found = self.answered([STILL, rule(0, 0, 50)] + [sure(*pair) for pair in pairs])
        self.assertEqual(found[2:], [[x if t > 0 else 0] for x, t in pairs])

    def test_many_sets_each_time(self):
        grown, stocks = rounds()
        found = self.answered([grown, rule(27, 0, 50)] + [blind(stocks)] * 398)
        self.assertEqual(found[2:], [[1]] * 398)

    def test_many_sets_and_a_new_rule_each_time(self):
        grown, stocks = rounds()
        found = self.answered([grown] + [rule(27, 0, 50), blind(stocks)] * 200)
        self.assertEqual(found[2::2], [[1]] * 199)

    def test_too_many_sets_each_time(self):
        shrinking = growth(50, [1, 1], [*range(51), 0, *range(50)])
        found = self.answered([shrinking, rule(0, 1, 1)] + [blind([50])] * 398)
        self.assertEqual(found[2:], [[0]] * 398)
        found = self.answered([shrinking, rule(0, 1, 4)] + [blind([50])] * 398)
        self.assertEqual(found[2:], [[-8]] * 398)

    def test_sixteen_thousand_numbers(self):
        for grown in (STILL, RICH):
            calls = [grown, rule(0, 0, 50)] + [check(list(range(51))), refute([1000] * 51), play(50, [5] * 200)] * 60
            found = self.answered(calls)
            self.assertGreater(len(found), 150)
            self.assertEqual(found[2::3], [[1]] * len(found[2::3]))
            self.assertEqual(found[3::3], [[0]] * len(found[3::3]))

    def test_the_longest_way_to_the_end_each_time(self):
        found = self.answered([STILL, rule(0, 1, 50)] + [force(50, [1] * 200)] * 78)
        self.assertEqual(found[2:], [[0] * 51] * len(found[2:]))
        self.assertEqual(len(found), 79)

    def test_all_of_these_together_and_a_second_time(self):
        grown, stocks = rounds()
        calls = [
            grown, rule(27, 0, 50), blind(stocks), demand(50), sure(50, 100), mean(50, 9), play(27, [3] * 200),
            STILL, rule(0, 1, 50), force(50, [1] * 50), refute(list(range(2, 53))), check(list(range(51))),
            RICH, rule(0, 0, 50), sure(50, 100), mean(50, 9), demand(50),
        ]
        words = Words(50, [1] * 6, grown[-306:], 27, 0, 50)
        wanted = [
            [0], [0], [1], [1], words.sure(50, 100), words.mean(50, 9), [0] * 201 + [27],
            [0], [0], [0] * 51, [1], [0],
            [0], [0], [5000], [450 * 24 ** 9, 24 ** 9], [50],
        ]
        self.assertEqual(self.answered(calls * 9), wanted * 9)
        self.assertEqual(self.answered(calls * 9), wanted * 9)

    def test_just_sixteen_thousand_numbers_in_four_hundred_calls(self):
        filler = [check([HIGHEST] * 320)] * 46
        small = [STILL, rule(0, 0, 50)]
        line = flat(small + filler)
        rest = MOST_CALLS - len(small) - len(filler)
        line += flat([demand(50)] * (rest - 1))
        left = MOST_NUMBERS - len(line)
        self.assertIn(left - 3, range(0, 200 + 1))
        line += play(50, [0] * (left - 3))
        self.assertEqual(len(line), MOST_NUMBERS)
        found = split(answers(line))
        self.assertEqual(len(found), MOST_CALLS)
        self.assertEqual(found[2:48], [[-4]] * 46)
        self.assertEqual(found[48:-1], [[0]] * (rest - 1))
        self.assertEqual(found[-1], [0, 50] + [0] * (left - 3))


if __name__ == "__main__":
    unittest.main()
