"""How calls and answers lie in their lists, and that nothing else is touched."""

import contextlib
import io
import unittest

from harvestgame.stocks import answers
from helper import HIGHEST, LOWEST, ask, growth, harm, most, next_stock, quotas, rule, ruled, safe, told, years

COAST = growth(4, [1, 1], [0, 2, 4, 4, 4, 0, 1, 3, 4, 4])
ALL_TEN = [COAST, told(), rule(1, 1, 2), ruled(), next_stock(4, 1, 1), safe(), quotas(4), most(4), years(2), harm(2, 1)]
ALL_TEN_ANSWERED = [
    1, 0,
    15, 0, 4, 2, 1, 1, 0, 2, 4, 4, 4, 0, 1, 3, 4, 4,
    1, 0,
    4, 0, 1, 1, 2,
    1, 4,
    3, 0, 3, 4,
    3, 0, 1, 2,
    1, 2,
    2, 1, 2,
    1, 1,
]


def flat(calls):
    return [number for call in calls for number in call]


class LayoutTest(unittest.TestCase):
    def test_all_ten_calls(self):
        calls = [0, 4, 2, 1, 1, 10, 0, 2, 4, 4, 4, 0, 1, 3, 4, 4, 1, 2, 1, 1, 2, 3, 4, 4, 1, 1, 5]
        calls += [6, 4, 7, 4, 8, 2, 9, 2, 1]
        self.assertEqual(flat(ALL_TEN), calls)
        self.assertEqual(answers(calls), ALL_TEN_ANSWERED)

    def test_any_call_first(self):
        for call in ALL_TEN[1:]:
            self.assertEqual(answers(call + COAST), [1, -1, 1, 0])

    def test_refused_calls_are_stepped_over_whole(self):
        far = growth(HIGHEST, [LOWEST] * 320, [HIGHEST] * 320)
        found = answers(far + COAST + growth(4, [], [5, 5]) + told())
        self.assertEqual(found, [1, -3, 1, 0, 1, -4] + ALL_TEN_ANSWERED[2:18])

    def test_calls_of_a_later_stage_are_stepped_over_whole(self):
        later = [
            [10, 0], [10, 2, 5, 5], [11, 3, 1, 1, 1], [12, 1, 2, 5, 5], [13, 2, 1, 5], [14, 5],
            [15, 5, 5], [16, 5, 5], [17, 2, 5, 5], [18],
        ]
        for call in later:
            found = ask(COAST, rule(1, 1, 2), call, safe(), told(), ruled())
            self.assertEqual(found[3:], [[0, 3, 4], [0, 4, 2, 1, 1, 0, 2, 4, 4, 4, 0, 1, 3, 4, 4], [0, 1, 1, 2]])

    def test_four_hundred_calls(self):
        self.assertEqual(answers([5] * 400), [1, -1] * 400)
        self.assertEqual(answers(COAST + told() * 399), [1, 0] + ALL_TEN_ANSWERED[2:18] * 399)

    def test_four_hundred_calls_of_the_longest_kind(self):
        still = growth(50, [1] * 6, list(range(51)) * 6)
        rules = [rule(0, 1, 1 + k % 50) for k in range(199)]
        found = ask(still, *[call for held in rules for call in (held, years(50))])
        self.assertEqual(found[2::2], [[1, 51]] * 199)

    def test_kinds(self):
        found = answers(flat(ALL_TEN) + [5, 6, 0, 9, 9, 9])
        self.assertIs(type(found), list)
        self.assertEqual({type(number) for number in found}, {int})


class NothingKeptTest(unittest.TestCase):
    def test_what_is_handed_in_stays(self):
        calls = flat(ALL_TEN) + growth(2, [9], [7, 7]) + rule(9, 9, 9) + quotas(1)
        before = list(calls)
        answers(calls)
        self.assertEqual(calls, before)

    def test_a_second_time_is_as_the_first(self):
        calls = flat(ALL_TEN)
        self.assertEqual([answers(calls) for k in range(3)], [ALL_TEN_ANSWERED] * 3)

    def test_no_growth_and_no_rule_at_the_beginning(self):
        answers(flat(ALL_TEN))
        self.assertEqual(answers([1]), [1, -1])
        self.assertEqual(answers(COAST + ruled() + safe()), [1, 0, 1, -2, 1, -2])

    def test_what_is_given_back_is_the_callers(self):
        calls = flat(ALL_TEN)
        first = answers(calls)
        first.clear()
        self.assertEqual(answers(calls), ALL_TEN_ANSWERED)

    def test_nothing_is_printed(self):
        out = io.StringIO()
        with contextlib.redirect_stdout(out), contextlib.redirect_stderr(out):
            answers(flat(ALL_TEN))
        self.assertEqual(out.getvalue(), "")


if __name__ == "__main__":
    unittest.main()
