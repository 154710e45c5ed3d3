"""rising."""

import unittest

from helper import Words, ask, ask_last, drawn_games, growth, rising, rising_games, rule, ruled, small_games, told


def risen(n, *rows):
    return ask_last(growth(n, [1] * len(rows), [stock for row in rows for stock in row]), rising())[0]


class RisingTest(unittest.TestCase):
    def test_ordinary(self):
        self.assertEqual(risen(4, [0, 2, 4, 4, 4], [0, 1, 3, 4, 4]), 1)
        self.assertEqual(risen(4, [0, 2, 4, 3, 4], [0, 1, 3, 4, 4]), 0)

    def test_steps_that_stay_equal(self):
        self.assertEqual(risen(3, [0, 0, 0, 0]), 1)
        self.assertEqual(risen(3, [3, 3, 3, 3], [0, 0, 3, 3]), 1)
        self.assertEqual(risen(1, [1, 1]), 1)

    def test_one_season_that_falls_among_others_that_rise(self):
        for at in range(6):
            rows = [[0, 1, 2, 3]] * 6
            rows[at] = [0, 2, 1, 3]
            self.assertEqual(risen(3, *rows), 0)
        self.assertEqual(risen(3, *[[0, 1, 2, 3]] * 6), 1)

    def test_each_step_counts(self):
        for e in range(50):
            row = list(range(51))
            row[e] = row[e + 1] + 1 if e < 49 else 50
            row[e + 1] = e
            self.assertEqual(risen(50, row), 0)
        self.assertEqual(risen(50, list(range(51))), 1)

    def test_from_one_season_to_another_there_is_no_step(self):
        self.assertEqual(risen(2, [1, 2, 2], [0, 0, 1]), 1)
        self.assertEqual(risen(2, [2, 2, 2], [0, 0, 0], [1, 1, 1]), 1)

    def test_least_growth(self):
        self.assertEqual([risen(1, [0, 0]), risen(1, [0, 1]), risen(1, [1, 0]), risen(1, [1, 1])], [1, 1, 0, 1])

    def test_falls_all_the_way(self):
        self.assertEqual(risen(50, list(range(50, -1, -1))), 0)

    def test_needs_a_growth_and_no_rule(self):
        grown = growth(2, [1, 3], [0, 1, 2, 0, 0, 2])
        self.assertEqual(ask(rising(), grown, rising(), rule(2, 2, 2), rising()), [[-1], [0], [1], [0], [1]])

    def test_follows_the_growth_that_is_held(self):
        found = ask(growth(1, [1], [1, 0]), rising(), growth(1, [1], [0, 1]), rising(), growth(9, [1], [0]), rising())
        self.assertEqual(found, [[0], [0], [0], [1], [-4], [1]])

    def test_nothing_is_changed(self):
        found = ask(growth(1, [1], [1, 0]), rule(1, 0, 1), rising(), told(), ruled())
        self.assertEqual(found[2:], [[0], [0, 1, 1, 1, 1, 0], [0, 1, 0, 1]])

    def test_beside_the_words(self):
        for n, weights, table, held in [*small_games(), *drawn_games(27, 200, 4, 2), *rising_games(28, 50, 50)]:
            wanted = int(Words(n, weights, table, *held).rising())
            self.assertEqual(ask_last(growth(n, weights, table), rising()), [wanted])


if __name__ == "__main__":
    unittest.main()
