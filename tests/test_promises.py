"""Points 1 and 4 of the promises, and the calls beside the words of the document."""

import itertools
import random
import unittest

from helper import Words, ask_many, growth, harm, most, next_stock, quotas, rule, safe, years


def rules_up_to(n):
    return [(low, least, top) for low in range(n + 1) for least in range(n + 1) for top in range(least, n + 1)]


def small_games():
    """Every growth of so few stocks and seasons, under every rule."""
    for n, count in ((1, 1), (1, 2), (2, 1)):
        for table in itertools.product(range(n + 1), repeat=count * (n + 1)):
            for held in rules_up_to(n):
                yield n, count, list(table), held


def drawn_rule(draw, n):
    least = draw.randint(0, n)
    # Games in which little need be caught are those that last.
    least = min(least, draw.randint(0, n), draw.randint(0, n))
    return draw.randint(0, n) if draw.random() < 0.3 else draw.randint(0, n // 3), least, draw.randint(least, n)


def drawn_table(draw, n, count):
    """Now any stocks, now such as grow somewhat from what is left."""
    if draw.random() < 0.4:
        return [draw.randint(0, n) for k in range(count * (n + 1))]
    return [max(0, min(n, e + draw.randint(-1, 3))) for c in range(count) for e in range(n + 1)]


def drawn_games(seed, many, greatest):
    draw = random.Random(seed)
    for k in range(many):
        n = draw.randint(1, greatest)
        count = draw.randint(1, 6)
        yield n, count, drawn_table(draw, n, count), drawn_rule(draw, n)


def rising_games(seed, many, greatest):
    draw = random.Random(seed)
    for k in range(many):
        n = draw.randint(1, greatest)
        count = draw.randint(1, 6)
        rows = [sorted(drawn_table(draw, n, 1)) for c in range(count)]
        yield n, count, [stock for row in rows for stock in row], drawn_rule(draw, n)


def wide_games():
    """The greatest growths: caught from more slowly than they grow, and faster."""
    slow = [min(50, e + e // 8) for e in range(51)]
    fast = [min(50, e + e // 3) for e in range(51)]
    still = list(range(51))
    for held in ((5, 2, 9), (0, 1, 50), (20, 0, 50), (0, 4, 4), (50, 0, 3), (10, 50, 50), (7, 3, 5)):
        yield 50, 2, fast + slow, held
        yield 50, 6, fast + slow + fast + slow + fast + still, held


class Game:
    """All that the program tells of one growth and rule."""

    def __init__(self, n, count, table, held):
        self.n = n
        self.words = Words(n, count, table, *held)
        self.before = [growth(n, [1 + c % 4 for c in range(count)], table), rule(*held)]
        stocks = range(n + 1)
        pairs = [(x, q) for x in stocks for q in range(x + 1)]
        self.safe = ask_many(self.before, [safe()])[0]
        self.quotas = ask_many(self.before, [quotas(x) for x in stocks])
        self.most = ask_many(self.before, [most(x) for x in stocks])
        self.years = ask_many(self.before, [years(x) for x in stocks])
        self.harm = dict(zip(pairs, ask_many(self.before, [harm(x, q) for x, q in pairs])))
        triples = [(x, q, c) for x, q in pairs for c in range(count)]
        self.next = dict(zip(triples, ask_many(self.before, [next_stock(*triple) for triple in triples])))

    def comes(self, x, q, c):
        return self.next[(x, q, c)][0]


class GameTest(unittest.TestCase):
    def beside_the_words(self, game):
        words = game.words
        held = words.safe()
        self.assertEqual(game.safe, [0] + held)
        for x in range(game.n + 1):
            if x in held:
                self.assertEqual(game.years[x], [0])
                self.assertEqual(game.quotas[x], [0] + words.quotas(x))
                self.assertEqual(game.most[x], [max(words.quotas(x))])
            else:
                self.assertEqual(game.years[x], [1, words.years(x)])
                self.assertEqual(game.quotas[x], [-6])
                self.assertEqual(game.most[x], [-6])
        for (x, q), answer in game.harm.items():
            if x in held or x < words.low or q not in words.catches(x):
                self.assertEqual(answer, [-6])
            else:
                self.assertEqual(answer, [words.harm(x, q)])

    def never_comes_to_the_end(self, game):
        """Point 1: safe catches lead from safe stocks to safe stocks alone, none at the end."""
        count = game.words.season_count
        reached = list(game.safe[1:])
        for x in reached:
            self.assertFalse(game.words.is_end(x))
            catches = game.quotas[x][1:]
            self.assertEqual(game.quotas[x][0], 0)
            self.assertTrue(catches)
            self.assertIn(game.most[x][0], catches)
            for q in catches:
                self.assertIn(q, game.words.catches(x))
                for c in range(count):
                    y = game.comes(x, q, c)
                    if y not in reached:
                        reached.append(y)
        self.assertEqual(sorted(reached), game.safe[1:])

    def comes_to_the_end(self, game):
        """Point 1: whatever is caught, the seasons of harm bring the end within the years told."""
        for x in range(game.n + 1):
            if x in game.safe[1:]:
                continue
            told, left = game.years[x]
            self.assertEqual(told, 1)
            played = {x}
            while left > 0:
                going = [y for y in played if not game.words.is_end(y)]
                played = {game.comes(y, q, game.harm[(y, q)][0]) for y in going for q in game.words.catches(y)}
                left -= 1
            self.assertTrue(all(game.words.is_end(y) for y in played))

    def from_one_on(self, game):
        """Point 4, as far as safe and quotas go."""
        stocks = game.safe[1:]
        self.assertEqual(stocks, list(range(game.n + 1 - len(stocks), game.n + 1)))
        for x in stocks:
            catches = game.quotas[x][1:]
            self.assertEqual(catches, list(range(game.words.least, game.words.least + len(catches))))

    def all_of(self, games):
        safe_counts = set()
        for made in games:
            game = Game(*made)
            self.beside_the_words(game)
            self.never_comes_to_the_end(game)
            self.comes_to_the_end(game)
            share = (len(game.safe) > 1) + (len(game.safe) == game.n + 2)
            safe_counts.add(share)
        # No safe stock, some, all: each has been among the games.
        self.assertEqual(safe_counts, {0, 1, 2})

    def test_small_games(self):
        self.all_of(small_games())

    def test_drawn_games(self):
        self.all_of(drawn_games(1, 400, 7))
        self.all_of(drawn_games(2, 60, 20))

    def test_wide_games(self):
        self.all_of([*wide_games(), (50, 6, list(range(51)) * 6, (0, 0, 50))])

    def test_safe_stocks_are_all_that_can_be_stayed_in(self):
        for n, count, table, held in [*small_games(), *drawn_games(3, 300, 6)]:
            wanted = Words(n, count, table, *held).safe_by_sets()
            before = [growth(n, [1] * count, table), rule(*held)]
            self.assertEqual(ask_many(before, [safe()]), [[0] + wanted])

    def test_rising_games(self):
        some = 0
        for made in rising_games(4, 300, 12):
            game = Game(*made)
            self.from_one_on(game)
            some += 1 < len(game.safe) < game.n + 2
        self.assertGreater(some, 30)
        for n, count, table, held in wide_games():
            self.from_one_on(Game(n, count, table, held))


if __name__ == "__main__":
    unittest.main()
