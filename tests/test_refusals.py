"""The refusals of the calls 10 to 18: each that there is, their order, and that they change nothing."""

import unittest

from helper import HIGHEST, LOWEST, ask, blind, check, demand, flat, force, growth, mean, play, refute, rising, rule
from helper import ruled, safe, sure, told
from harvestgame.stocks import answers

# 3 is safe; of 2 only 2 may be caught, and season 0 then brings 0; 1 is less than least, 0 less than low.
HELD = [growth(3, [1, 2], [0, 3, 3, 3, 3, 3, 3, 3]), rule(1, 2, 3)]
HELD_AFTER = [[0, 3, 2, 1, 2, 0, 3, 3, 3, 3, 3, 3, 3], [0, 1, 2, 3], [0, 3]]
FAR = (LOWEST, -1, 4, 321, HIGHEST)
FAR_RANKS = (LOWEST, -1, 1001, HIGHEST)

ORDINARY = [
    (check([3]), [1]), (refute([1, 2, 3, 0]), [1]), (play(3, [0, 1]), [0, 2, 2, 3]), (force(2, [2]), [0, 0]),
    (demand(3), [2]), (sure(3, 2), [4]), (mean(3, 2), [36, 9]), (blind([3]), [1]), (rising(), [1]),
]

# Each call in wrong forms, by the refusal that is due where a growth and a rule are held.
WRONG = {
    -3: [
        *[play(x, row) for x in FAR for row in ([], [0], [9], [0] * 201)],
        *[force(x, row) for x in FAR for row in ([], [0], [9], [0] * 201)],
        *[demand(x) for x in FAR],
        *[sure(x, t) for x in FAR for t in (0, 100, 101, LOWEST, HIGHEST)],
        *[mean(x, t) for x in FAR for t in (0, 9, 10, LOWEST, HIGHEST)],
        *[sure(x, t) for x in range(4) for t in (-1, 101, LOWEST, HIGHEST)],
        *[mean(x, t) for x in range(4) for t in (-1, 10, LOWEST, HIGHEST)],
    ],
    -4: [
        *[check(row) for far in FAR for row in ([far], [0, far], [far] + [0] * 50)],
        check([3] * 52), check([3] * 320), check([HIGHEST] * 320),
        *[refute(row) for far in FAR_RANKS for row in ([far, 0, 0, 0], [0, 0, 0, far])],
        refute([]), refute([0] * 3), refute([0] * 5), refute([0] * 320), refute([LOWEST] * 320),
        *[play(x, row) for x in range(4) for far in (LOWEST, -1, 2, HIGHEST) for row in ([far], [0, far])],
        *[play(x, row) for x in range(4) for row in ([0] * 201, [0] * 320)],
        *[force(x, row) for x in range(4) for far in FAR for row in ([far], [2, far])],
        *[force(x, row) for x in range(4) for row in ([2] * 201, [2] * 320)],
        *[blind(row) for far in FAR for row in ([far], [0, far], [far] + [3] * 50)],
        blind([]), blind([3] * 52), blind([0] * 52), blind([3] * 320), blind([LOWEST] * 320),
    ],
    -6: [
        play(0, []), play(1, [0]), play(2, [0, 1]), play(0, [1] * 200),
        force(3, []), force(3, [2]), force(3, [0] * 200),
        demand(0), sure(0, 0), sure(1, 1), sure(2, 100), sure(0, 100), mean(0, 0), mean(1, 1), mean(2, 9),
    ],
    -7: [force(2, []), force(2, [0]), force(2, [1]), force(2, [3, 2]), force(2, [0, 2])],
}


class RefusalTest(unittest.TestCase):
    def setUp(self):
        self.assertEqual(ask(*HELD, told(), ruled(), safe())[2:], HELD_AFTER)

    def test_ordinary(self):
        found = ask(*HELD, *[call for call, answer in ORDINARY])
        self.assertEqual(found[2:], [answer for call, answer in ORDINARY])

    def test_each_refusal_is_its_number_alone_and_changes_nothing(self):
        for number, calls in WRONG.items():
            for call in calls:
                found = ask(*HELD, call, told(), ruled(), safe(), call)
                self.assertEqual(found[2:], [[number], *HELD_AFTER, [number]], call)

    def test_after_refusals_the_ordinary_calls_answer_as_before(self):
        wrong = [calls[k] for calls in WRONG.values() for k in (0, len(calls) // 2, -1)]
        found = ask(*HELD, *wrong, *[call for call, answer in ORDINARY], *wrong, *[call for call, answer in ORDINARY])
        self.assertEqual(found[-len(ORDINARY):], [answer for call, answer in ORDINARY])
        self.assertEqual(found[2 + len(wrong):-len(wrong) - len(ORDINARY)], [answer for call, answer in ORDINARY])

    def test_no_growth_comes_ahead_of_all_else(self):
        for call in [call for call, answer in ORDINARY] + [call for calls in WRONG.values() for call in calls]:
            self.assertEqual(ask(call, *HELD, safe()), [[-1], [0], [0], [0, 3]])

    def test_no_rule_comes_next(self):
        for call in [call for call, answer in ORDINARY[:-1]] + [call for calls in WRONG.values() for call in calls]:
            self.assertEqual(ask(HELD[0], call, HELD[1], safe()), [[0], [-2], [0], [0, 3]])
            self.assertEqual(ask(*HELD, HELD[0], call)[3:], [[-2]])

    def test_rising_needs_no_rule(self):
        self.assertEqual(ask(HELD[0], rising(), HELD[1], rising()), [[0], [1], [0], [1]])

    def test_whole_numbers_come_ahead_of_lists(self):
        calls = [play(4, [9]), play(-1, [0] * 201), force(4, [9]), force(LOWEST, [HIGHEST] * 320)]
        self.assertEqual(ask(*HELD, *calls)[2:], [[-3]] * 4)

    def test_lists_come_ahead_of_what_the_call_tells(self):
        calls = [play(0, [9]), play(2, [0] * 201), force(3, [9]), force(3, [0] * 201), force(2, [0, 9])]
        self.assertEqual(ask(*HELD, *calls)[2:], [[-4]] * 5)

    def test_a_safe_stock_comes_ahead_of_catches_that_may_not_be_made(self):
        self.assertEqual(ask(*HELD, force(3, [0]), force(3, []), force(2, [0]))[2:], [[-6], [-6], [-7]])

    def test_the_wrong_length_of_blind_comes_ahead_of_too_many_sets(self):
        turning = [0, *[1 + (k + 1) % 7 for k in range(7)], *[8 + (k + 1) % 43 for k in range(43)]]
        held = [growth(50, [1], turning), rule(1, 0, 0)]
        self.assertEqual(ask(*held, blind([1, 8]), blind([1, 8] * 26), blind([1, 8, 51]))[2:], [[-8], [-4], [-4]])

    def test_no_hundred(self):
        """There is no input that the interface has for which -100 is answered."""
        calls = [call for call, answer in ORDINARY] + [call for calls in WRONG.values() for call in calls]
        for start in range(0, len(calls), 390):
            for before in ([], HELD[:1], HELD):
                self.assertNotIn(-100, answers(flat([*before, *calls[start:start + 390]])))


if __name__ == "__main__":
    unittest.main()
