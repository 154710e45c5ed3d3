"""Points 1 and 4 of the promises, and the calls 4 to 9 beside the words of the document."""

import unittest

from helper import Words, ask_many, drawn_games, growth, harm, most, next_stock, quotas, rising, rising_games, rule
from helper import safe, small_games, wide_games, years


class Game:
    """All that the program tells of one growth and rule."""

    def __init__(self, n, weights, table, held):
        self.n = n
        self.words = Words(n, weights, table, *held)
        self.before = [growth(n, weights, table), rule(*held)]
        stocks = range(n + 1)
        pairs = [(x, q) for x in stocks for q in range(x + 1)]
        self.safe = ask_many(self.before, [safe()])[0]
        self.rising = ask_many(self.before, [rising()])[0]
        self.quotas = ask_many(self.before, [quotas(x) for x in stocks])
        self.most = ask_many(self.before, [most(x) for x in stocks])
        self.years = ask_many(self.before, [years(x) for x in stocks])
        self.harm = dict(zip(pairs, ask_many(self.before, [harm(x, q) for x, q in pairs])))
        triples = [(x, q, c) for x, q in pairs for c in range(len(weights))]
        self.next = dict(zip(triples, ask_many(self.before, [next_stock(*triple) for triple in triples])))

    def comes(self, x, q, c):
        return self.next[(x, q, c)][0]


class GameTest(unittest.TestCase):
    def beside_the_words(self, game):
        words = game.words
        held = words.safe()
        self.assertEqual(game.safe, [0] + held)
        for x in range(game.n + 1):
            if x in held:
                self.assertEqual(game.years[x], [0])
                self.assertEqual(game.quotas[x], [0] + words.quotas(x))
                self.assertEqual(game.most[x], [max(words.quotas(x))])
            else:
                self.assertEqual(game.years[x], [1, words.years(x)])
                self.assertEqual(game.quotas[x], [-6])
                self.assertEqual(game.most[x], [-6])
        for (x, q), answer in game.harm.items():
            if x in held or x < words.low or q not in words.catches(x):
                self.assertEqual(answer, [-6])
            else:
                self.assertEqual(answer, [words.harm(x, q)])

    def never_comes_to_the_end(self, game):
        """Point 1: safe catches lead from safe stocks to safe stocks alone, none at the end."""
        count = game.words.season_count
        reached = list(game.safe[1:])
        for x in reached:
            self.assertFalse(game.words.is_end(x))
            catches = game.quotas[x][1:]
            self.assertEqual(game.quotas[x][0], 0)
            self.assertTrue(catches)
            self.assertIn(game.most[x][0], catches)
            for q in catches:
                self.assertIn(q, game.words.catches(x))
                for c in range(count):
                    y = game.comes(x, q, c)
                    if y not in reached:
                        reached.append(y)
        self.assertEqual(sorted(reached), game.safe[1:])

    def comes_to_the_end(self, game):
        """Point 1: whatever is caught, the seasons of harm bring the end within the years told."""
        for x in range(game.n + 1):
            if x in game.safe[1:]:
                continue
            told, left = game.years[x]
            self.assertEqual(told, 1)
            played = {x}
            while left > 0:
                going = [y for y in played if not game.words.is_end(y)]
                played = {game.comes(y, q, game.harm[(y, q)][0]) for y in going for q in game.words.catches(y)}
                left -= 1
            self.assertTrue(all(game.words.is_end(y) for y in played))

    def from_one_on(self, game):
        """Point 4."""
        self.assertEqual(game.rising, [1])
        stocks = game.safe[1:]
        self.assertEqual(stocks, list(range(game.n + 1 - len(stocks), game.n + 1)))
        for x in stocks:
            catches = game.quotas[x][1:]
            self.assertEqual(catches, list(range(game.words.least, game.words.least + len(catches))))

    def all_of(self, games):
        safe_counts = set()
        for made in games:
            game = Game(*made)
            self.beside_the_words(game)
            self.never_comes_to_the_end(game)
            self.comes_to_the_end(game)
            share = (len(game.safe) > 1) + (len(game.safe) == game.n + 2)
            safe_counts.add(share)
        # No safe stock, some, all: each has been among the games.
        self.assertEqual(safe_counts, {0, 1, 2})

    def test_small_games(self):
        self.all_of(small_games())

    def test_drawn_games(self):
        self.all_of(drawn_games(1, 400, 7))
        self.all_of(drawn_games(2, 60, 20))

    def test_wide_games(self):
        self.all_of([*wide_games(), (50, [1] * 6, list(range(51)) * 6, (0, 0, 50))])

    def test_safe_stocks_are_all_that_can_be_stayed_in(self):
        for n, weights, table, held in [*small_games(), *drawn_games(3, 300, 6)]:
            wanted = Words(n, weights, table, *held).safe_by_sets()
            before = [growth(n, weights, table), rule(*held)]
            self.assertEqual(ask_many(before, [safe()]), [[0] + wanted])

    def test_rising_games(self):
        some = 0
        for made in rising_games(4, 300, 12):
            game = Game(*made)
            self.from_one_on(game)
            some += 1 < len(game.safe) < game.n + 2
        self.assertGreater(some, 30)
        for made in wide_games():
            self.from_one_on(Game(*made))

    def test_whatever_game_rising_accepts(self):
        accepted = 0
        for made in [*small_games(), *drawn_games(5, 300, 5, 2)]:
            game = Game(*made)
            self.assertEqual(game.rising, [int(game.words.rising())])
            if game.rising == [1]:
                accepted += 1
                self.from_one_on(game)
        self.assertGreater(accepted, 100)


if __name__ == "__main__":
    unittest.main()
