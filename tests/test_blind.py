"""blind."""

import itertools
import random
import unittest

from helper import HIGHEST, LOWEST, Words, ask, ask_last, ask_many, blind, drawn_games, growth, rule, ruled, safe
from helper import small_games, told

COAST = [growth(4, [1, 1], [0, 2, 4, 4, 4, 0, 1, 3, 4, 4]), rule(1, 1, 2)]
STILL = growth(4, [1], [0, 1, 2, 3, 4])
WIDE_STILL = growth(50, [1], list(range(51)))
# In season 1 one is lost: from {x} the sets met are rows of neighbours, each year wider and lower.
# Where something must be caught each year it always ends.
SHRINKING = growth(50, [1, 1], [*range(51), 0, *range(50)])


def blinds(before, *sets):
    return [answer[0] for answer in ask(*before, *[blind(stocks) for stocks in sets])[len(before):]]


def turning(*sizes):
    """A growth up to 50 in which stocks from 1 on go round in rounds of these sizes, and one of each round."""
    table = list(range(51))
    first = 1
    begins = []
    for size in sizes:
        for k in range(size):
            table[first + k] = first + (k + 1) % size
        begins.append(first)
        first += size
    return growth(50, [1], table), table, begins


class BlindTest(unittest.TestCase):
    def test_ordinary(self):
        self.assertEqual(blinds(COAST, [4], [3], [3, 4], [2], [2, 4], [1]), [1, 1, 1, 0, 0, 0])

    def test_what_can_be_seen_may_not_be_done_unseen(self):
        # Of 1 nothing may be caught, of 2 one must be: either is safe, both together are not.
        held = [growth(2, [1], [0, 1, 0]), rule(1, 0, 1)]
        self.assertEqual(ask_last(*held, safe()), [0, 1, 2])
        self.assertEqual(blinds(held, [1], [2], [1, 2]), [1, 1, 0])

    def test_a_catch_may_be_made_of_each_stock(self):
        rich = growth(4, [1], [4] * 5)
        self.assertEqual(blinds([rich, rule(0, 2, 3)], [4], [2, 4], [1, 4], [0], [2], [3, 2, 4]), [1, 1, 0, 0, 1, 1])

    def test_a_stock_less_than_low(self):
        held = [STILL, rule(2, 0, 4)]
        self.assertEqual(blinds(held, [1], [0], [2], [1, 2], [2, 1], [2, 3, 4], [0, 1, 2, 3, 4]), [0, 0, 1, 0, 0, 1, 0])

    def test_a_stock_less_than_low_where_there_would_be_many_sets(self):
        grown, table, begins = turning(7, 43)
        self.assertEqual(blinds([grown, rule(1, 0, 0)], [*begins, 0], begins, [0]), [0, -8, 0])

    def test_goes_round_for_ever(self):
        grown, table, begins = turning(2, 3, 5)
        self.assertEqual(blinds([grown, rule(1, 0, 0)], begins, begins[:1], begins[1:]), [1, 1, 1])
        self.assertEqual(blinds([WIDE_STILL, rule(0, 0, 50)], [50], [7, 50]), [1, 1])

    def test_goes_round_after_a_way_that_leads_there(self):
        # 4, 3, 2 and then 1 for ever.
        held = [growth(4, [1], [0, 1, 1, 2, 3]), rule(1, 0, 0)]
        self.assertEqual(blinds(held, [4], [1, 4], [0, 4]), [1, 1, 0])

    def test_one_way_ends_and_another_does_not(self):
        # 4 left leads to the end by and by, 3 left to 4 again.
        held = growth(4, [1], [0, 0, 1, 4, 2])
        self.assertEqual(blinds([held, rule(1, 0, 0)], [4]), [0])
        self.assertEqual(blinds([held, rule(1, 0, 1)], [4]), [1])

    def test_always_ends(self):
        self.assertEqual(blinds([STILL, rule(0, 1, 4)], [4], [1, 2], [0]), [0, 0, 0])
        self.assertEqual(blinds([WIDE_STILL, rule(0, 1, 50)], [50], [50, 10]), [0, 0])
        self.assertEqual(blinds([growth(4, [1], [0, 0, 1, 2, 3]), rule(1, 0, 4)], [4], [1]), [0, 0])

    def test_every_season_counts(self):
        calm = [0, 1, 2, 3]
        for at in range(6):
            table = calm * at + [0, 1, 1, 0] + calm * (5 - at)
            held = [growth(3, [1] * 6, table), rule(1, 0, 0)]
            self.assertEqual(blinds(held, [1], [2], [1, 2], [3], [1, 3]), [1, 1, 1, 0, 0])

    def test_no_stock_less_than_low_behind_the_last_catch(self):
        # After one year 1 comes, which is less than low: that the first catch may be made isn't enough.
        self.assertEqual(blinds([growth(4, [1], [0, 1, 1, 1, 1]), rule(2, 0, 1)], [4]), [0])

    def test_members_twice_and_in_any_order(self):
        self.assertEqual(blinds(COAST, [4, 4], [4, 3, 3, 4], [4, 2, 4], [4] * 51), [1, 1, 0, 1])

    def test_number_of_members(self):
        self.assertEqual(blinds(COAST, [], [4] * 51, [4] * 52, [3] * 320), [-4, 1, -4, -4])
        held = [WIDE_STILL, rule(0, 0, 0)]
        self.assertEqual(blinds(held, list(range(51)), list(range(51)) + [0], [0]), [1, -4, 1])

    def test_wrong_members(self):
        for wrong in (-1, 5, LOWEST, HIGHEST):
            self.assertEqual(blinds(COAST, [wrong], [3, wrong], [wrong, 3], [0, wrong]), [-4] * 4)


class ManySetsTest(unittest.TestCase):
    def met(self, before_table, weights, held, stocks):
        return len(Words(50, weights, before_table, *held).met_sets(stocks, 2000))

    def test_just_three_hundred_for_ever(self):
        grown, table, begins = turning(4, 3, 25)
        self.assertEqual(self.met(table, [1], (1, 0, 0), begins), 300)
        self.assertEqual(blinds([grown, rule(1, 0, 0)], begins), [1])

    def test_just_three_hundred_and_one_for_ever(self):
        grown, table, begins = turning(7, 43)
        self.assertEqual(self.met(table, [1], (1, 0, 0), begins), 301)
        self.assertEqual(blinds([grown, rule(1, 0, 0)], begins), [-8])

    def test_just_three_hundred_that_end(self):
        self.assertEqual(self.met(SHRINKING[-102:], [1, 1], (0, 1, 26), [35]), 300)
        self.assertEqual(blinds([SHRINKING, rule(0, 1, 26)], [35]), [0])

    def test_just_three_hundred_and_one_that_end(self):
        self.assertEqual(self.met(SHRINKING[-102:], [1, 1], (0, 1, 27), [35]), 301)
        self.assertEqual(blinds([SHRINKING, rule(0, 1, 27)], [35]), [-8])

    def test_many_more(self):
        self.assertEqual(self.met(SHRINKING[-102:], [1, 1], (0, 1, 50), [50]), 627)
        self.assertEqual(blinds([SHRINKING, rule(0, 1, 50)], [50]), [-8])
        grown, table, begins = turning(5, 7, 9, 13, 16)
        self.assertEqual(blinds([grown, rule(1, 0, 0)], begins), [-8])

    def test_many_sets_beside_a_row_that_is_found_at_once(self):
        # 50 left stays 50, so to catch nothing goes on for ever; but all the other sets are met too.
        table = SHRINKING[-102:]
        table[50] = 50
        table[101] = 50
        held = (0, 0, 50)
        self.assertGreater(self.met(table, [1, 1], held, [50]), 300)
        words = Words(50, [1, 1], table, *held)
        self.assertEqual(words.sets_after(frozenset([50]))[0], frozenset([50]))
        self.assertEqual(blinds([growth(50, [1, 1], table), rule(*held)], [50]), [-8])

    def test_the_set_itself_is_counted_once(self):
        # A round of 300 is met again at its end, and is no set more.
        grown, table, begins = turning(4, 3, 25)
        later = [table[x] for x in begins]
        self.assertEqual(blinds([grown, rule(1, 0, 0)], later, begins + begins), [1, 1])
        # One set more, ahead of the round: 50 leads into it, and comes never again.
        table[50] = begins[2]
        found = blinds([growth(50, [1], table), rule(1, 0, 0)], [*begins[:2], 50])
        self.assertEqual(self.met(table, [1], (1, 0, 0), [*begins[:2], 50]), 301)
        self.assertEqual(found, [-8])

    def test_sets_behind_a_stock_that_is_too_low_are_not_met(self):
        # As 301 sets that end; with low at 1 all those with 0 in them are not met.
        self.assertLess(self.met(SHRINKING[-102:], [1, 1], (1, 1, 27), [35]), 300)
        self.assertEqual(blinds([SHRINKING, rule(1, 1, 27)], [35]), [0])

    def test_nothing_is_changed(self):
        grown, table, begins = turning(7, 43)
        found = ask(grown, rule(1, 0, 0), blind(begins), told(), ruled(), blind(begins[:1]), blind(begins))
        self.assertEqual(found[2:], [[-8], [0, 50, 1, 1, *table], [0, 1, 0, 0], [1], [-8]])


class BesideTheWordsTest(unittest.TestCase):
    def lasts(self, words, stocks, row):
        """Whether this row of catches may be made, with no stock less than low, whatever comes."""
        stocks = set(stocks)
        if min(stocks) < words.low:
            return False
        for q in row:
            if not all(q in words.catches(x) for x in stocks):
                return False
            stocks = {y for x in stocks for y in words.may_come(x, q)}
            if min(stocks) < words.low:
                return False
        return True

    def test_all_rows_of_catches(self):
        """With 7 sets there are, a row of 7 catches comes to a set again, and so goes on for ever."""
        seen = []
        for n, weights, table, held in [*small_games(), *drawn_games(22, 60, 2)]:
            words = Words(n, weights, table, *held)
            before = [growth(n, weights, table), rule(*held)]
            sets = [part for size in range(1, n + 2) for part in itertools.combinations(range(n + 1), size)]
            rows = list(itertools.product(range(words.least, words.most + 1), repeat=2 ** (n + 1) - 1))
            for stocks, answer in zip(sets, ask_many(before, [blind(stocks) for stocks in sets])):
                self.assertEqual(answer, [int(any(self.lasts(words, stocks, row) for row in rows))])
                seen.append(answer[0])
        self.assertGreater(min(seen.count(0), seen.count(1)), 200)

    def test_drawn_games(self):
        draw = random.Random(23)
        seen = {0: 0, 1: 0, -8: 0}
        for n, weights, table, held in [*drawn_games(24, 300, 7), *drawn_games(25, 40, 50, 2)]:
            words = Words(n, weights, table, *held)
            before = [growth(n, weights, table), rule(*held)]
            top = [x for x in range(n + 1) if x >= held[0]]
            sets = [draw.sample(top, draw.randint(1, min(3, len(top)))) for k in range(2)] + [[n], [draw.randint(0, n)]]
            for stocks, answer in zip(sets, ask_many(before, [blind(stocks) for stocks in sets])):
                self.assertEqual(answer, words.blind(stocks))
                seen[answer[0]] += 1
        self.assertGreater(min(seen.values()), 10)

    def test_what_is_safe_unseen_is_safe(self):
        for n, weights, table, held in drawn_games(26, 200, 8):
            before = [growth(n, weights, table), rule(*held)]
            kept = ask_last(*before, safe())[1:]
            for x, answer in enumerate(ask_many(before, [blind([x]) for x in range(n + 1)])):
                if answer == [1]:
                    self.assertIn(x, kept)
                if len(weights) == 1 and answer != [-8]:
                    # With one season there is nothing that a look could tell.
                    self.assertEqual(answer, [int(x in kept)])


if __name__ == "__main__":
    unittest.main()
