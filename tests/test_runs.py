"""play and force."""

import random
import unittest

from helper import HIGHEST, LOWEST, Words, ask, ask_last, ask_many, drawn_games, force, growth, harm, most, next_stock
from helper import play, rule, safe, small_games, wide_games, years

# Season 0 is good, season 1 is bad; 3 and 4 are safe, their greatest safe catches are 1 and 2.
COAST = [growth(4, [1, 1], [0, 2, 4, 4, 4, 0, 1, 3, 4, 4]), rule(1, 1, 2)]
STILL = growth(4, [1], [0, 1, 2, 3, 4])
WIDE_STILL = growth(50, [1], list(range(51)))


class PlayTest(unittest.TestCase):
    def test_ordinary(self):
        found = ask(*COAST, play(4, [0]), play(4, [1]), play(3, [0]), play(3, [1]), play(4, [1, 1, 0, 1]))
        self.assertEqual(found[2:], [[0, 2, 4], [0, 2, 3], [0, 1, 4], [0, 1, 3], [0, 2, 1, 1, 2, 3]])

    def test_no_seasons(self):
        self.assertEqual(ask(*COAST, play(3, []), play(4, []))[2:], [[0, 3], [0, 4]])
        self.assertEqual(ask_last(STILL, rule(0, 0, 0), play(0, [])), [0, 0])

    def test_two_hundred_seasons(self):
        self.assertEqual(ask_last(*COAST, play(4, [1] * 200)), [0, 2] + [1] * 199 + [3])
        self.assertEqual(ask_last(*COAST, play(4, [0] * 200)), [0] + [2] * 200 + [4])
        self.assertEqual(ask_last(*COAST, play(3, [0, 1] * 100)), [0] + [1, 2] * 100 + [3])

    def test_more_than_two_hundred_seasons(self):
        self.assertEqual(ask(*COAST, play(4, [1] * 201), play(4, [1] * 320), play(4, [1] * 199 + [2]))[2:], [[-4]] * 3)

    def test_wrong_seasons(self):
        for wrong in (-1, 2, LOWEST, HIGHEST):
            found = ask(*COAST, play(4, [wrong]), play(4, [0, 1, wrong]), play(4, [wrong, 0]), play(1, [wrong]))
            self.assertEqual(found[2:], [[-4]] * 4)
        six = [growth(1, [1] * 6, [1, 1] * 6), rule(0, 0, 1)]
        self.assertEqual(ask(*six, play(1, [5, 0]), play(1, [6]))[2:], [[0, 1, 1, 1], [-4]])
        one = [growth(1, [1], [1, 1]), rule(0, 0, 1)]
        self.assertEqual(ask(*one, play(1, [0]), play(1, [1]))[2:], [[0, 1, 1], [-4]])

    def test_stock_that_is_not_safe(self):
        self.assertEqual(ask(*COAST, play(0, []), play(1, [0]), play(2, [0, 0]))[2:], [[-6]] * 3)
        self.assertEqual(ask_last(WIDE_STILL, rule(0, 1, 50), play(50, [])), [-6])

    def test_stock_out_of_range(self):
        for wrong in (-1, 5, LOWEST, HIGHEST):
            found = ask(*COAST, play(wrong, []), play(wrong, [0]), play(wrong, [9]), play(wrong, [0] * 201))
            self.assertEqual(found[2:], [[-3]] * 4)

    def test_the_greatest_of_catches_that_lie_apart(self):
        gaps = [growth(4, [1], [0, 4, 0, 4, 0]), rule(1, 0, 4)]
        self.assertEqual(ask(*gaps, play(4, [0, 0]), play(2, [0]), play(1, [0, 0]))[2:], [
            [0, 3, 3, 4], [0, 1, 4], [0, 0, 3, 4],
        ])

    def test_beside_the_words_and_the_other_calls(self):
        draw = random.Random(12)
        played = 0
        for n, weights, table, held in [*small_games(), *drawn_games(13, 150, 9), *wide_games()]:
            words = Words(n, weights, table, *held)
            before = [growth(n, weights, table), rule(*held)]
            for x in draw.sample(range(n + 1), min(n + 1, 4)):
                seasons = [draw.randrange(len(weights)) for k in range(draw.choice((0, 1, 3, 200)))]
                answer = ask_last(*before, play(x, seasons))
                if words.years(x) is not None:
                    self.assertEqual(answer, [-6])
                    continue
                played += 1
                self.assertEqual(answer, words.play(x, seasons))
                self.year_by_year(before, words, x, seasons, answer)
        self.assertGreater(played, 100)

    def year_by_year(self, before, words, x, seasons, answer):
        """Point 1: the end never comes."""
        for catch, season in list(zip(answer[1:-1], seasons))[:20]:
            self.assertFalse(words.is_end(x))
            found = ask(*before, most(x), next_stock(x, catch, season))[2:]
            self.assertEqual(found[0], [catch])
            x = found[1][0]
        if len(seasons) <= 20:
            self.assertEqual(answer[-1], x)
            self.assertFalse(words.is_end(x))


class ForceTest(unittest.TestCase):
    def test_ordinary(self):
        found = ask(*COAST, force(1, [1]), force(2, [1, 1]), force(2, [2]))
        self.assertEqual(found[2:], [[0, 0], [0, 1, 0], [0, 0]])

    def test_the_end_is_there_at_once(self):
        # 0 and 1 are less than low; 2 is not, but less than least.
        held = [growth(4, [1], [0] * 5), rule(2, 3, 3)]
        self.assertEqual(ask(*held, force(0, []), force(1, []), force(2, []))[2:], [[0]] * 3)
        self.assertEqual(ask(*held, force(0, [4]), force(1, [0, 0]), force(2, [2] * 200))[2:], [[0]] * 3)

    def test_the_end_for_less_than_low_alone_and_less_than_least_alone(self):
        held = [growth(4, [1], [0, 1, 1, 3, 4]), rule(2, 0, 4)]
        self.assertEqual(ask(*held, force(1, []), force(1, [1]))[2:], [[0], [0]])
        held = [STILL, rule(0, 2, 4)]
        self.assertEqual(ask(*held, force(1, []), force(3, [2, 4]), force(4, [2, 2]))[2:], [[0], [0, 0], [0, 0, 0]])

    def test_catches_behind_the_end_are_not_looked_at(self):
        found = ask(*COAST, force(2, [2, 0, 4, 3]), force(2, [1, 1, 0]), force(1, [1] + [4] * 199))
        self.assertEqual(found[2:], [[0, 0], [0, 1, 0], [0, 0]])

    def test_catches_behind_the_end_have_the_told_range(self):
        for wrong in (-1, 5, LOWEST, HIGHEST):
            found = ask(*COAST, force(2, [2, wrong]), force(0, [wrong]), force(3, [wrong]))
            self.assertEqual(found[2:], [[-4]] * 3)

    def test_a_catch_that_may_not_be_made(self):
        found = ask(*COAST, force(2, [0]), force(2, [3]), force(1, [2]), force(2, [1, 0]), force(2, [1, 2]))
        self.assertEqual(found[2:], [[-7]] * 5)
        self.assertEqual(ask(STILL, rule(0, 1, 2), force(4, [3]), force(4, [1, 1, 1, 1]))[2:], [[-7], [0, 0, 0, 0, 0]])

    def test_too_few_catches(self):
        self.assertEqual(ask(*COAST, force(1, []), force(2, []), force(2, [1]))[2:], [[-7]] * 3)
        held = [WIDE_STILL, rule(0, 1, 50)]
        found = ask(*held, force(50, [1] * 49), force(50, [1] * 50), force(50, [1] * 51))
        self.assertEqual(found[2:], [[-7], [0] * 51, [0] * 51])

    def test_number_of_catches(self):
        held = [WIDE_STILL, rule(0, 1, 50)]
        found = ask(*held, force(50, [1] * 200), force(50, [1] * 201), force(50, [1] * 320), force(0, [0] * 201))
        self.assertEqual(found[2:], [[0] * 51, [-4], [-4], [-4]])
        self.assertEqual(ask(*COAST, force(3, [1] * 200), force(3, [1] * 201), force(3, []))[2:], [[-6], [-4], [-6]])

    def test_stock_that_is_safe(self):
        self.assertEqual(ask(*COAST, force(3, [1]), force(4, []), force(4, [0]), force(4, [4]))[2:], [[-6]] * 4)

    def test_stock_out_of_range(self):
        for wrong in (-1, 5, LOWEST, HIGHEST):
            found = ask(*COAST, force(wrong, []), force(wrong, [1]), force(wrong, [9]), force(wrong, [0] * 201))
            self.assertEqual(found[2:], [[-3]] * 4)

    def test_the_season_is_harms(self):
        # 1 left of 3: season 0 brings 3 itself, season 1 brings 1, season 2 brings 0.
        held = [growth(3, [1, 1, 1], [0, 3, 2, 3, 0, 1, 2, 3, 0, 0, 2, 3]), rule(1, 1, 2)]
        found = ask(*held, years(1), years(2), years(3), force(3, [2, 1]), force(3, [1, 2]), force(3, [1, 1]))
        self.assertEqual(found[2:], [[1, 1], [1, 1], [1, 2], [0, 1, 0], [0, 0, 0], [0, 0, 2]])

    def test_beside_the_words_and_the_other_calls(self):
        draw = random.Random(14)
        seen = {0: 0, -6: 0, -7: 0}
        for n, weights, table, held in [*small_games(), *drawn_games(15, 300, 9), *wide_games()]:
            words = Words(n, weights, table, *held)
            before = [growth(n, weights, table), rule(*held)]
            for x in draw.sample(range(n + 1), min(n + 1, 4)):
                for size in (0, 2, 60):
                    catches = self.drawn_catches(draw, words, size)
                    answer = ask_last(*before, force(x, catches))
                    wanted = [-6] if words.years(x) is None else words.force(x, catches)
                    self.assertEqual(answer, wanted)
                    seen[answer[0]] += 1
                    if answer[0] == 0:
                        self.year_by_year(before, words, x, catches, answer[1:])
        self.assertGreater(min(seen.values()), 200)

    def drawn_catches(self, draw, words, size):
        if draw.random() < 0.3:
            return [draw.randint(0, words.n) for k in range(size)]
        return [words.least] * size

    def year_by_year(self, before, words, x, catches, seasons):
        """Point 1: the end comes, and within the years told."""
        self.assertLessEqual(len(seasons), words.years(x))
        for catch, season in zip(catches, seasons):
            self.assertFalse(words.is_end(x))
            found = ask(*before, harm(x, catch), next_stock(x, catch, season))[2:]
            self.assertEqual(found[0], [season])
            x = found[1][0]
        self.assertTrue(words.is_end(x))
        self.assertNotIn(x, ask_last(*before, safe())[1:])


if __name__ == "__main__":
    unittest.main()
