"""Whole lines of calls, right and wrong ones, beside the words of the document."""

import random
import unittest

from harvestgame.stocks import answers
from helper import HIGHEST, LOWEST, Words, drawn_rule, drawn_table, split

# Of each call how many whole numbers and how many lists it has.
FORMS = (
    (1, 2), (0, 0), (3, 0), (0, 0), (3, 0), (0, 0), (1, 0), (1, 0), (1, 0), (2, 0), (0, 1), (0, 1), (1, 1), (1, 1),
    (1, 0), (2, 0), (2, 0), (0, 1), (0, 0),
)
FAR = (LOWEST, LOWEST + 1, -1000, -2, -1, 51, 52, 1001, HIGHEST - 1, HIGHEST)


class Model:
    """Each call as the document's words have it, the refusals in the order in which they are told."""

    def __init__(self):
        self.growth = None
        self.words = None

    def answer(self, number, wholes, rows):
        if self.growth is None and number != 0:
            return [-1]
        if self.words is None and number not in (0, 1, 2, 4, 18):
            return [-2]
        if not all(first <= whole <= last for whole, first, last in self.ranges(number, *wholes)):
            return [-3]
        for row, shortest, longest, first, last in self.lists(number, wholes, rows):
            if not shortest <= len(row) <= longest or not all(first <= member <= last for member in row):
                return [-4]
        if number < 3:
            return self.held(number, wholes, rows)
        if number == 4:
            x, q, c = wholes
            return [self.growth[2][c * (self.growth[0] + 1) + x - q]]
        if number == 18:
            return [int(Words(*self.growth, 0, 0, 0).rising())]
        return self.worked_out(number, *wholes, *rows)

    def ranges(self, number, *wholes):
        if number == 0:
            return [(wholes[0], 1, 50)]
        n = self.growth[0]
        if number == 2:
            low, least, most = wholes
            return [(low, 0, n), (least, 0, n), (most, least, n)]
        found = [(wholes[0], 0, n)] if wholes else []
        if number in (4, 9):
            found.append((wholes[1], 0, wholes[0]))
        if number == 4:
            found.append((wholes[2], 0, len(self.growth[1]) - 1))
        if number in (15, 16):
            found.append((wholes[1], 0, 100 if number == 15 else 9))
        return found

    def lists(self, number, wholes, rows):
        if number == 0:
            size = (wholes[0] + 1) * len(rows[0])
            return [(rows[0], 1, 6, 1, 4), (rows[1], size, size, 0, wholes[0])]
        n = self.growth[0]
        shape = {
            10: (0, 51, 0, n), 11: (n + 1, n + 1, 0, 1000), 12: (0, 200, 0, len(self.growth[1]) - 1),
            13: (0, 200, 0, n), 17: (1, 51, 0, n),
        }
        return [(row, *shape[number]) for row in rows]

    def held(self, number, wholes, rows):
        if number == 0:
            self.growth = (wholes[0], *rows)
            self.words = None
        if number == 1:
            n, weights, table = self.growth
            return [0, n, len(weights), *weights, *table]
        if number == 2:
            self.words = Words(*self.growth, *wholes)
        return [0]

    def worked_out(self, number, *told):
        words = self.words
        safe = words.safe()
        x = told[0] if told else None
        if number in (6, 7, 12) and x not in safe or number in (9, 13) and x in safe:
            return [-6]
        if number == 9 and (x < words.low or told[1] not in words.catches(x)):
            return [-6]
        return {
            3: lambda: [0, words.low, words.least, words.most],
            5: lambda: [0, *safe],
            6: lambda: [0, *words.quotas(x)],
            7: lambda: [max(words.quotas(x))],
            8: lambda: [0] if x in safe else [1, words.years(x)],
            9: lambda: [words.harm(*told)],
            10: lambda: [int(words.can_be_stayed_in(set(x)))],
            11: lambda: [int(words.refutes(x))],
            12: lambda: words.play(*told),
            13: lambda: words.force(*told),
            14: lambda: words.demand(x),
            15: lambda: words.sure(*told),
            16: lambda: words.mean(*told),
            17: lambda: words.blind(x),
        }[number]()


class Drawer:
    """Draws calls that are mostly right, and now and then wrong in one place or another."""

    def __init__(self, seed, greatest, most_seasons):
        self.draw = random.Random(seed)
        self.greatest = greatest
        self.most_seasons = most_seasons
        self.n = 3
        self.count = 1

    def call(self, number):
        wholes, rows = self.right(number)
        for k in range(len(wholes)):
            if self.draw.random() < 0.04:
                wholes[k] = self.draw.choice(FAR)
        for row in rows:
            if row and self.draw.random() < 0.04:
                row[self.draw.randrange(len(row))] = self.draw.choice(FAR)
            if self.draw.random() < 0.02:
                row.append(0)
            if row and self.draw.random() < 0.02:
                row.pop()
        return number, wholes, rows

    def stock(self):
        return self.draw.randint(0, self.n + (self.draw.random() < 0.05))

    def row(self, last, longest):
        return [self.draw.randint(0, last) for k in range(self.draw.choice((0, 1, 2, 5, longest)))]

    def right(self, number):
        draw = self.draw
        if number == 0:
            self.n = draw.randint(1, self.greatest)
            self.count = draw.randint(1, self.most_seasons)
            return [self.n], [[draw.randint(1, 4) for c in range(self.count)], drawn_table(draw, self.n, self.count)]
        if number == 2:
            return list(drawn_rule(draw, self.n)), []
        if number in (4, 9):
            x = self.stock()
            return [x, draw.randint(0, max(0, x)), draw.randint(0, self.count - 1)][:FORMS[number][0]], []
        if number in (15, 16):
            return [self.stock(), draw.choice((0, 1, 2, 5, 9, 10 if number == 16 else 100))], []
        if number == 17 and draw.random() < 0.6:
            # Of high stocks more sets are met.
            return [], [[draw.randint(self.n // 2, self.n) for k in range(draw.randint(1, 3))]]
        if number in (10, 17):
            return [], [[self.stock() for k in range(draw.choice((0, 1, 1, 2, 3, 51, 52)))]]
        if number == 11:
            return [], [[draw.randint(0, 3) for x in range(self.n + 1)]]
        if number == 12:
            return [self.stock()], [self.row(self.count - 1, 200)]
        if number == 13:
            return [self.stock()], [self.row(min(2, self.n), 200)]
        return [self.stock() for k in range(FORMS[number][0])], []

    def line(self, size):
        """A growth and a rule near the beginning of most, and then again and again."""
        numbers = [self.draw.choice((0, 0, 0, 1, 18)), self.draw.choice((2, 2, 2, 4, 10))]
        while len(numbers) < size:
            numbers.append(self.draw.choice((0, 2, *range(1, 19), *range(10, 18))))
        return [self.call(number) for number in numbers]


def laid_out(line):
    return [
        number for head, wholes, rows in line
        for number in [head, *wholes, *[part for row in rows for part in (len(row), *row)]]
    ]


class LineTest(unittest.TestCase):
    def lines(self, seed, many, size, greatest, most_seasons=6):
        drawer = Drawer(seed, greatest, most_seasons)
        seen = {}
        for k in range(many):
            line = drawer.line(size)
            model = Model()
            wanted = [model.answer(*call) for call in line]
            calls = laid_out(line)
            before = list(calls)
            given = answers(calls)
            self.assertEqual(calls, before)
            self.assertEqual(split(given), wanted)
            self.assertEqual({type(number) for number in given}, {int})
            self.assertEqual(answers(calls), given)
            for call, answer in zip(line, wanted):
                seen.setdefault(call[0], set()).add(min(answer[0], 0))
        return seen

    def test_short_lines(self):
        seen = self.lines(29, 800, 20, 6)
        self.assertEqual(sorted(seen), list(range(19)))
        refusals = {
            0: {-3, -4}, 1: {-1}, 2: {-1, -3}, 3: {-1, -2}, 4: {-1, -3}, 5: {-1, -2}, 6: {-1, -2, -3, -6},
            7: {-1, -2, -3, -6}, 8: {-1, -2, -3}, 9: {-1, -2, -3, -6}, 10: {-1, -2, -4}, 11: {-1, -2, -4},
            12: {-1, -2, -3, -4, -6}, 13: {-1, -2, -3, -4, -6, -7}, 14: {-1, -2, -3, -6}, 15: {-1, -2, -3, -6},
            16: {-1, -2, -3, -6}, 17: {-1, -2, -4}, 18: {-1},
        }
        for number, wanted in refusals.items():
            self.assertEqual(seen[number] - {-8}, {0, *wanted}, number)

    def test_long_lines(self):
        self.lines(30, 12, 250, 9)

    def test_wide_growths(self):
        self.lines(31, 100, 20, 50)
        self.assertIn(-8, self.lines(32, 200, 20, 50, 2)[17])


if __name__ == "__main__":
    unittest.main()
