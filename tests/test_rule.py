"""rule, ruled and next."""

import unittest

from helper import HIGHEST, LOWEST, ask, ask_last, growth, next_stock, rule, ruled, told

SMALL = growth(3, [1, 4], [0, 1, 2, 3, 3, 2, 0, 1])


class RuleTest(unittest.TestCase):
    def test_ordinary(self):
        self.assertEqual(ask(SMALL, rule(1, 0, 2), ruled()), [[0], [0], [0, 1, 0, 2]])

    def test_each_rule_there_is_and_those_around(self):
        for low in range(-1, 5):
            for least in range(-1, 5):
                for most in range(-1, 5):
                    meant = 0 <= low <= 3 and 0 <= least <= most <= 3
                    wanted = [[0], [0, low, least, most]] if meant else [[-3], [-2]]
                    self.assertEqual(ask(SMALL, rule(low, least, most), ruled())[1:], wanted)

    def test_edges_of_the_greatest_growth(self):
        wide = growth(50, [1], [50] * 51)
        for edge in ((0, 0, 0), (50, 50, 50), (0, 0, 50), (50, 0, 0), (0, 50, 50), (25, 25, 25)):
            self.assertEqual(ask(wide, rule(*edge), ruled())[1:], [[0], [0, *edge]])
        for wrong in ((51, 0, 0), (0, 51, 51), (0, 0, 51), (0, 26, 25)):
            self.assertEqual(ask(wide, rule(*wrong), ruled())[1:], [[-3], [-2]])

    def test_later_rule_takes_the_place(self):
        self.assertEqual(ask_last(SMALL, rule(1, 0, 2), rule(0, 3, 3), ruled()), [0, 0, 3, 3])

    def test_far_numbers(self):
        for far in (LOWEST, HIGHEST):
            for wrong in ((far, 0, 0), (0, far, 0), (0, 0, far), (0, far, far), (far, far, far)):
                self.assertEqual(ask(SMALL, rule(*wrong), ruled())[1:], [[-3], [-2]])

    def test_a_refused_rule_changes_nothing(self):
        found = ask(SMALL, rule(1, 0, 2), rule(0, 2, 1), ruled(), rule(4, 0, 0), ruled(), told())
        self.assertEqual(found[2:6], [[-3], [0, 1, 0, 2], [-3], [0, 1, 0, 2]])
        self.assertEqual(found[6], [0, 3, 2, 1, 4, 0, 1, 2, 3, 3, 2, 0, 1])

    def test_no_growth_comes_ahead_of_all_else(self):
        self.assertEqual(ask(rule(0, 0, 0), rule(HIGHEST, LOWEST, 0), ruled()), [[-1], [-1], [-1]])

    def test_ruled_without_rule(self):
        self.assertEqual(ask(SMALL, ruled(), rule(0, 0, 0), ruled()), [[0], [-2], [0], [0, 0, 0, 0]])


class NextTest(unittest.TestCase):
    def test_each_year_there_is(self):
        table = ((0, 1, 2, 3), (3, 2, 0, 1))
        for x in range(4):
            for q in range(x + 1):
                for c in range(2):
                    self.assertEqual(ask_last(SMALL, next_stock(x, q, c)), [table[c][x - q]])

    def test_the_greatest_growth(self):
        table = [(7 * e + 11 * c) % 51 for c in range(6) for e in range(51)]
        wide = growth(50, [1] * 6, table)
        found = ask(wide, next_stock(50, 0, 5), next_stock(50, 50, 5), next_stock(50, 50, 0), next_stock(0, 0, 0))
        self.assertEqual(found[1:], [[table[305]], [table[255]], [table[0]], [table[0]]])

    def test_a_rule_is_neither_needed_nor_asked(self):
        found = ask(SMALL, next_stock(3, 0, 1), rule(3, 2, 2), next_stock(3, 0, 1), next_stock(1, 1, 1))
        self.assertEqual(found, [[0], [1], [0], [1], [3]])

    def test_out_of_range(self):
        wrong = [(-1, 0, 0), (4, 0, 0), (2, -1, 0), (2, 3, 0), (0, 1, 0), (2, 0, -1), (2, 0, 2), (3, 4, 0)]
        for far in (LOWEST, HIGHEST):
            wrong += [(far, 0, 0), (2, far, 0), (2, 0, far), (far, far, far)]
        for numbers in wrong:
            self.assertEqual(ask_last(SMALL, next_stock(*numbers)), [-3])

    def test_no_growth_comes_ahead_of_all_else(self):
        self.assertEqual(ask(next_stock(0, 0, 0), next_stock(-1, 5, HIGHEST)), [[-1], [-1]])

    def test_nothing_is_changed(self):
        found = ask(SMALL, rule(1, 0, 2), next_stock(3, 0, 0), next_stock(9, 0, 0), ruled(), told())
        self.assertEqual(found[3:], [[-3], [0, 1, 0, 2], [0, 3, 2, 1, 4, 0, 1, 2, 3, 3, 2, 0, 1]])


if __name__ == "__main__":
    unittest.main()
