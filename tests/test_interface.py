"""How calls and answers lie in their lists, and that nothing else is touched."""

import contextlib
import io
import unittest

from harvestgame.stocks import answers
from helper import HIGHEST, LOWEST, ask, blind, check, demand, flat, force, growth, harm, mean, most, next_stock, play
from helper import quotas, refute, rising, rule, ruled, safe, sure, told, years

COAST = growth(4, [1, 1], [0, 2, 4, 4, 4, 0, 1, 3, 4, 4])
ALL = [
    COAST, told(), rule(1, 1, 2), ruled(), next_stock(4, 1, 1), safe(), quotas(4), most(4), years(2), harm(2, 1),
    check([4, 3, 4]), refute([1, 2, 3, 0, 0]), play(4, [1, 0, 1]), force(2, [1, 1, 0]), demand(4), sure(4, 3),
    mean(3, 2), blind([3, 4]), rising(),
]
ALL_ANSWERED = [
    1, 0,
    15, 0, 4, 2, 1, 1, 0, 2, 4, 4, 4, 0, 1, 3, 4, 4,
    1, 0,
    4, 0, 1, 1, 2,
    1, 4,
    3, 0, 3, 4,
    3, 0, 1, 2,
    1, 2,
    2, 1, 2,
    1, 1,
    1, 1,
    1, 1,
    5, 0, 2, 1, 2, 3,
    3, 0, 1, 0,
    1, 1,
    1, 5,
    2, 12, 4,
    1, 1,
    1, 1,
]


class LayoutTest(unittest.TestCase):
    def test_all_calls(self):
        calls = [0, 4, 2, 1, 1, 10, 0, 2, 4, 4, 4, 0, 1, 3, 4, 4, 1, 2, 1, 1, 2, 3, 4, 4, 1, 1, 5]
        calls += [6, 4, 7, 4, 8, 2, 9, 2, 1, 10, 3, 4, 3, 4, 11, 5, 1, 2, 3, 0, 0, 12, 4, 3, 1, 0, 1]
        calls += [13, 2, 3, 1, 1, 0, 14, 4, 15, 4, 3, 16, 3, 2, 17, 2, 3, 4, 18]
        self.assertEqual(flat(ALL), calls)
        self.assertEqual(answers(calls), ALL_ANSWERED)

    def test_any_call_first(self):
        for call in ALL[1:]:
            self.assertEqual(answers(call + COAST), [1, -1, 1, 0])

    def test_refused_calls_are_stepped_over_whole(self):
        far = growth(HIGHEST, [LOWEST] * 320, [HIGHEST] * 320)
        found = answers(far + COAST + growth(4, [], [5, 5]) + told())
        self.assertEqual(found, [1, -3, 1, 0, 1, -4] + ALL_ANSWERED[2:18])

    def test_refused_lists_are_stepped_over_whole(self):
        far = [HIGHEST, 18] * 160
        refused = [check(far), refute(far), play(4, far), force(2, far), blind(far), check([5]), refute([]), blind([])]
        for call in refused:
            found = answers(COAST + rule(1, 1, 2) + call + safe() + ruled())
            self.assertEqual(found, [1, 0, 1, 0, 1, -4, 3, 0, 3, 4, 4, 0, 1, 1, 2])
            self.assertEqual(answers(call + COAST), [1, -1, 1, 0])

    def test_numbers_of_calls_within_lists_are_no_calls(self):
        found = ask(COAST, rule(1, 1, 2), check([0, 1, 2, 3, 4]), play(4, [1, 0, 0]), force(2, [2, 3, 1]), ruled())
        self.assertEqual(found[2:], [[0], [0, 2, 1, 2, 4], [0, 0], [0, 1, 1, 2]])

    def test_four_hundred_calls(self):
        self.assertEqual(answers([5] * 400), [1, -1] * 400)
        self.assertEqual(answers(COAST + told() * 399), [1, 0] + ALL_ANSWERED[2:18] * 399)

    def test_four_hundred_calls_of_the_longest_kind(self):
        still = growth(50, [1] * 6, list(range(51)) * 6)
        rules = [rule(0, 1, 1 + k % 50) for k in range(199)]
        found = ask(still, *[call for held in rules for call in (held, years(50))])
        self.assertEqual(found[2::2], [[1, 51]] * 199)

    def test_kinds(self):
        found = answers(flat(ALL) + [5, 6, 0, 9, 9, 9, 10, 0, 14, 0, 15, 4, 0, 16, 4, 0, 17, 1, 0])
        self.assertIs(type(found), list)
        self.assertEqual({type(number) for number in found}, {int})


class NothingKeptTest(unittest.TestCase):
    def test_what_is_handed_in_stays(self):
        calls = flat(ALL) + growth(2, [9], [7, 7]) + rule(9, 9, 9) + quotas(1)
        calls += check([4, 4, 3, 3]) + refute([9, 9, 9, 9, 9]) + force(2, [2, 4, 4]) + blind([4, 3, 4, 0])
        before = list(calls)
        answers(calls)
        self.assertEqual(calls, before)

    def test_a_second_time_is_as_the_first(self):
        calls = flat(ALL)
        self.assertEqual([answers(calls) for k in range(3)], [ALL_ANSWERED] * 3)

    def test_within_one_line_a_call_answers_as_it_did(self):
        found = ask(*ALL, *ALL[3:], *ALL[3:][::-1])
        self.assertEqual(found[19:35], found[3:19])
        self.assertEqual(found[35:], found[3:19][::-1])

    def test_no_growth_and_no_rule_at_the_beginning(self):
        answers(flat(ALL))
        self.assertEqual(answers([1]), [1, -1])
        self.assertEqual(answers(COAST + ruled() + safe()), [1, 0, 1, -2, 1, -2])
        self.assertEqual(ask(COAST, *ALL[10:]), [[0]] + [[-2]] * 8 + [[1]])

    def test_what_is_given_back_is_the_callers(self):
        calls = flat(ALL)
        first = answers(calls)
        first.clear()
        self.assertEqual(answers(calls), ALL_ANSWERED)

    def test_nothing_is_printed(self):
        out = io.StringIO()
        with contextlib.redirect_stdout(out), contextlib.redirect_stderr(out):
            answers(flat(ALL))
        self.assertEqual(out.getvalue(), "")


if __name__ == "__main__":
    unittest.main()
