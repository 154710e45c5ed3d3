"""check and refute, and point 2 of the promises."""

import itertools
import random
import unittest

from helper import HIGHEST, LOWEST, Words, ask, ask_last, ask_many, check, drawn_games, growth, refute, rule, safe
from helper import small_games, wide_games, years

# From 3 on the stock can be kept, whatever comes; of 0, 1 and 2 the years are 0, 1 and 2.
COAST = [growth(4, [1, 1], [0, 2, 4, 4, 4, 0, 1, 3, 4, 4]), rule(1, 1, 2)]
STILL = growth(4, [1], [0, 1, 2, 3, 4])
WIDE_STILL = growth(50, [1], list(range(51)))


def checked(before, *sets):
    return [answer[0] for answer in ask(*before, *[check(stocks) for stocks in sets])[len(before):]]


def refuted(before, *rows):
    return [answer[0] for answer in ask(*before, *[refute(ranks) for ranks in rows])[len(before):]]


class CheckTest(unittest.TestCase):
    def test_ordinary(self):
        self.assertEqual(checked(COAST, [3, 4], [4], [3], [2, 3, 4], [1], [2, 4]), [1, 1, 0, 0, 0, 0])

    def test_empty_set(self):
        self.assertEqual(checked(COAST, []), [1])
        self.assertEqual(checked([STILL, rule(4, 4, 4)], []), [1])

    def test_members_twice_and_in_any_order(self):
        self.assertEqual(checked(COAST, [4, 3], [4, 4, 3, 4, 3, 3], [3, 3], [4, 4], [4, 2, 3, 2]), [1, 1, 0, 1, 0])

    def test_fifty_one_members(self):
        self.assertEqual(checked([WIDE_STILL, rule(0, 0, 0)], list(range(51)), list(range(50, -1, -1))), [1, 1])
        self.assertEqual(checked([WIDE_STILL, rule(0, 0, 0)], [50] * 51, [7, 9, 11] * 17), [1, 1])
        self.assertEqual(checked([WIDE_STILL, rule(1, 0, 0)], list(range(51)), list(range(1, 51)) + [1]), [0, 1])
        self.assertEqual(checked(COAST, [3] * 50 + [4], [4] * 51, [3] * 51), [1, 1, 0])

    def test_fifty_two_members(self):
        self.assertEqual(checked([WIDE_STILL, rule(0, 0, 0)], list(range(51)) + [0], [50] * 52), [-4, -4])
        self.assertEqual(checked(COAST, [3] * 51 + [4], [4] * 320), [-4, -4])

    def test_a_stock_less_than_low(self):
        self.assertEqual(checked([STILL, rule(2, 0, 4)], [2], [1, 2], [1], [0], [2, 3, 4]), [1, 0, 0, 0, 1])
        self.assertEqual(checked([STILL, rule(0, 0, 4)], [0], [0, 1, 2, 3, 4]), [1, 1])

    def test_a_stock_of_which_no_catch_may_be_made(self):
        rich = growth(4, [1], [4] * 5)
        self.assertEqual(checked([rich, rule(0, 3, 3)], [4], [3, 4], [2, 4], [0, 4]), [1, 1, 0, 0])

    def test_every_season_counts(self):
        calm = [1, 1, 1, 1]
        for at in range(6):
            table = calm * at + [1, 1, 2, 1] + calm * (5 - at)
            self.assertEqual(checked([growth(3, [1] * 6, table), rule(0, 0, 0)], [1], [1, 2], [1, 3]), [1, 1, 1])
            self.assertEqual(checked([growth(3, [1] * 6, table), rule(1, 0, 3)], [1, 2], [1, 3]), [1, 1])
            table = calm * at + [1, 1, 2, 0] + calm * (5 - at)
            self.assertEqual(checked([growth(3, [1] * 6, table), rule(0, 0, 0)], [1], [1, 2], [1, 3]), [1, 1, 0])

    def test_catches_from_least_to_most_alone(self):
        # Only 1 left grows.
        held = growth(4, [1], [0, 4, 0, 0, 0])
        found = [checked([held, rule(1, least, top)], [4])[0] for least, top in ((0, 2), (0, 3), (3, 4), (4, 4), (1, 1))]
        self.assertEqual(found, [0, 1, 1, 0, 0])

    def test_wrong_members(self):
        for wrong in (-1, 5, LOWEST, HIGHEST):
            self.assertEqual(checked(COAST, [wrong], [3, 4, wrong], [wrong, 3, 4], [0, wrong]), [-4] * 4)


class RefuteTest(unittest.TestCase):
    def test_ordinary(self):
        self.assertEqual(refuted(COAST, [1, 2, 3, 0, 0], [1, 2, 0, 0, 0], [1, 0, 0, 0, 0], [0, 0, 0, 0, 0]), [1] * 4)
        self.assertEqual(refuted(COAST, [1, 2, 3, 4, 0], [1, 2, 2, 0, 0], [0, 2, 3, 0, 0], [1, 1, 0, 0, 0]), [0] * 4)

    def test_ranks_need_not_be_the_least(self):
        self.assertEqual(refuted(COAST, [1, 7, 8, 0, 0], [1, 999, 1000, 0, 0], [1, 1000, 999, 0, 0]), [1, 1, 0])

    def test_rank_one(self):
        self.assertEqual(refuted([STILL, rule(2, 0, 4)], [1, 1, 0, 0, 0], [1, 1, 1, 0, 0], [0, 1, 0, 0, 0]), [1, 0, 1])
        # Though no catch may be made of 1, it is not less than low.
        self.assertEqual(refuted([STILL, rule(1, 2, 4)], [1, 0, 0, 0, 0], [1, 1, 0, 0, 0]), [1, 0])

    def test_rank_above_one_of_which_no_catch_may_be_made(self):
        held = [growth(4, [1], [4] * 5), rule(0, 2, 4)]
        self.assertEqual(refuted(held, [2, 2, 0, 0, 0], [2, 1000, 0, 0, 0], [1000, 0, 0, 0, 0]), [1, 1, 1])
        self.assertEqual(refuted(held, [2, 2, 2, 0, 0], [1, 2, 0, 0, 0]), [0, 0])

    def test_rank_above_one_of_a_stock_less_than_low(self):
        self.assertEqual(refuted([STILL, rule(3, 0, 0)], [1, 1, 2, 0, 0], [2, 0, 0, 0, 0]), [0, 0])
        self.assertEqual(refuted([STILL, rule(3, 1, 1)], [1, 1, 2, 0, 0], [2, 3, 4, 0, 0], [2, 2, 0, 0, 0]), [1, 1, 0])

    def test_the_same_rank_is_not_enough(self):
        self.assertEqual(refuted([STILL, rule(1, 1, 1)], [1, 2, 3, 4, 5], [1, 2, 2, 4, 5], [1, 2, 3, 3, 5]), [1, 0, 0])

    def test_each_catch_counts(self):
        # Of 2 the catch 0 brings 0 and the catch 1 brings 1.
        held = [growth(2, [1], [0, 1, 0]), rule(1, 0, 1)]
        self.assertEqual(refuted(held, [1, 0, 2], [1, 2, 3], [1, 0, 0]), [0, 0, 1])
        held = [growth(2, [1], [0, 1, 0]), rule(1, 0, 0)]
        self.assertEqual(refuted(held, [1, 0, 2], [1, 2, 3]), [1, 0])

    def test_one_season_is_enough(self):
        calm = [3, 3, 3, 3]
        for at in range(6):
            table = calm * at + [0, 0, 0, 0] + calm * (5 - at)
            self.assertEqual(refuted([growth(3, [1] * 6, table), rule(1, 0, 3)], [1, 2, 2, 2], [1, 0, 0, 2]), [1, 1])

    def test_a_next_stock_of_rank_nought_is_no_harm(self):
        held = [growth(2, [1, 1], [0, 0, 1, 0, 2, 1]), rule(1, 0, 0)]
        self.assertEqual(refuted(held, [1, 2, 3], [1, 2, 0], [0, 2, 3], [1, 0, 3]), [1, 1, 0, 0])

    def test_ranks_at_their_edges(self):
        self.assertEqual(refuted([STILL, rule(1, 1, 4)], [1, 1000, 0, 0, 0], [1, 1001, 0, 0, 0]), [1, -4])
        for wrong in (-1, 1001, LOWEST, HIGHEST):
            self.assertEqual(refuted(COAST, [wrong, 0, 0, 0, 0], [0, 0, 0, 0, wrong]), [-4, -4])
        self.assertEqual(refuted(COAST, [0] * 5, [1000] * 5, [1] * 5), [1, 0, 0])

    def test_number_of_ranks(self):
        self.assertEqual(refuted(COAST, [0] * 4, [0] * 6, [], [0] * 320, [1] + [0] * 4), [-4, -4, -4, -4, 1])
        held = [WIDE_STILL, rule(0, 1, 50)]
        self.assertEqual(refuted(held, [0] * 50, [0] * 52, [2 + x for x in range(51)]), [-4, -4, 1])
        least = [growth(1, [1], [0, 0]), rule(1, 0, 0)]
        self.assertEqual(refuted(least, [1], [1, 2, 0], [1, 2]), [-4, -4, 1])


class PointTwoTest(unittest.TestCase):
    def sets_of(self, n, draw):
        if n <= 4:
            return [list(part) for size in range(n + 2) for part in itertools.combinations(range(n + 1), size)]
        return [[x for x in range(n + 1) if draw.random() < share] for share in (0.2, 0.5, 0.8, 0.9) * 3]

    def ranks_of(self, n, told, draw):
        """The ranks that the years would give, these spoilt in places, and any."""
        just = [0 if answer == [0] else answer[1] + 1 for answer in told]
        spoilt = [[rank if draw.random() < 0.8 else draw.randint(0, 4) for rank in just] for k in range(8)]
        return [just] + spoilt + [[draw.randint(0, 3) for x in range(n + 1)] for k in range(8)]

    def point_two(self, made, draw, seen):
        n, weights, table, held = made
        words = Words(n, weights, table, *held)
        before = [growth(n, weights, table), rule(*held)]
        kept = ask_last(*before, safe())[1:]
        sets = self.sets_of(n, draw) + [kept]
        for stocks, answer in zip(sets, ask_many(before, [check(stocks) for stocks in sets])):
            self.assertEqual(answer, [int(words.can_be_stayed_in(set(stocks)))])
            if answer == [1]:
                self.assertLessEqual(set(stocks), set(kept))
        self.assertEqual(answer, [1])
        ranked = self.ranks_of(n, ask_many(before, [years(x) for x in range(n + 1)]), draw)
        found = ask_many(before, [refute(ranks) for ranks in ranked])
        for ranks, answer in zip(ranked, found):
            self.assertEqual(answer, [int(words.refutes(ranks))])
            if answer == [1]:
                self.assertFalse([x for x in kept if ranks[x] != 0])
            seen.append(answer[0])
        return ranked[0], found[0]

    def test_what_is_accepted(self):
        draw = random.Random(6)
        seen = []
        for made in [*small_games(), *drawn_games(7, 300, 4, 3), *drawn_games(8, 60, 25), *wide_games()]:
            self.point_two(made, draw, seen)
        self.assertGreater(seen.count(0), 1000)
        self.assertGreater(seen.count(1), 1000)

    def test_every_row_of_ranks_on_small_growths(self):
        accepted = 0
        for n, weights, table, held in [*small_games(), *drawn_games(9, 20, 2)]:
            words = Words(n, weights, table, *held)
            before = [growth(n, weights, table), rule(*held)]
            kept = words.safe()
            ranked = [list(ranks) for ranks in itertools.product(range(n + 3), repeat=n + 1)]
            for ranks, answer in zip(ranked, ask_many(before, [refute(ranks) for ranks in ranked])):
                self.assertEqual(answer, [int(words.refutes(ranks))])
                if answer == [1]:
                    accepted += any(ranks)
                    self.assertFalse([x for x in kept if ranks[x] != 0])
        self.assertGreater(accepted, 500)

    def test_all_that_is_not_safe_can_be_refuted(self):
        """A stock less than low has rank 1, any other one rank more than its years."""
        draw = random.Random(10)
        for made in [*small_games(), *drawn_games(11, 100, 8)]:
            n, weights, table, held = made
            before = [growth(n, weights, table), rule(*held)]
            told = ask_many(before, [years(x) for x in range(n + 1)])
            just = self.ranks_of(n, told, draw)[0]
            self.assertEqual(ask_last(*before, refute(just)), [1])


if __name__ == "__main__":
    unittest.main()
