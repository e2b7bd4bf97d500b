"""Promises 2 and 3: no shares are more than the total, every order reaches it, and the cut proves it."""

import unittest
from itertools import combinations, permutations, product

from tests.helper import BY_AGE, CUT, EVEN, FLOWS, MOST, TOTAL, Draw, ask, ask_behind, by, check, worth


def trees(seed, count, most_feeders, most_plants, capacity, want):
    draw = Draw(seed)
    for _ in range(count):
        words = draw.tree(1 + draw.below(most_feeders), draw.below(most_plants + 1), capacity, want)
        # A wider first feeder now and then, else it would almost always be the cut by itself.
        words.capacities[0] += draw.below(2) * capacity
        yield words


def total_of(words):
    return ask(*words.calls(), [TOTAL])[-1][1]


def orders_of(words):
    return permutations(range(1, len(words.plants) + 1))


def sets_of(feeders):
    return [row for count in range(len(feeders) + 1) for row in combinations(feeders, count)]


class SharesTest(unittest.TestCase):
    def test_no_shares_that_fit_add_up_to_more(self):
        for words in trees(51, 150, 6, 4, 9, 4):
            self.assertEqual(max(sum(shares) for shares in words.all_that_fit()), total_of(words), words.calls())

    def test_check_tells_no_shares_as_more(self):
        for words in trees(52, 25, 6, 3, 9, 4):
            rows = [check(*shares) for shares in words.all_that_fit()]
            found = ask_behind(words.calls(), rows)
            self.assertEqual({answer[1] for answer in found}, {1}, words.calls())
            self.assertEqual(min(answer[2] for answer in found), 0, words.calls())

    def test_by_every_order_they_add_up_to_the_total(self):
        for words in trees(53, 80, 6, 5, 12, 5):
            sums = {sum(answer) for answer in ask_behind(words.calls(), [by(*order) for order in orders_of(words)])}
            self.assertEqual(sums, {total_of(words)}, words.calls())

    def test_by_every_order_of_great_amounts(self):
        for words in trees(54, 20, 12, 5, MOST // 2, MOST):
            sums = {sum(answer) for answer in ask_behind(words.calls(), [by(*order) for order in orders_of(words)])}
            self.assertEqual(sums, {total_of(words)}, words.calls())

    def test_as_equally_as_can_be_and_by_age_they_do_too(self):
        for words in [*trees(55, 80, 6, 5, 12, 5), *trees(56, 60, 12, 12, MOST // 2, MOST)]:
            found = ask(*words.calls(), [EVEN], [BY_AGE], [FLOWS, 0], [FLOWS, 1])[-4:]
            sums = [sum(found[0]), sum(found[1]), found[2][1], found[3][1]]
            self.assertEqual(sums, [total_of(words)] * 4, words.calls())


class CutTest(unittest.TestCase):
    def worths(self, words, rows):
        return [answer[1] for answer in ask_behind(words.calls(), [worth(*row) for row in rows])]

    def check_cut(self, words):
        cut = ask(*words.calls(), [CUT])[-1][1:]
        self.assertEqual(self.worths(words, [cut]), [total_of(words)], words.calls())
        return cut

    def test_the_cut_is_worth_the_total(self):
        met = {len(self.check_cut(words)) for words in trees(57, 300, 12, 12, 20, 9)}
        self.assertLessEqual({0, 1, 2, 3}, met)

    def test_the_cut_of_great_amounts_is_worth_the_total(self):
        for words in trees(58, 100, 12, 12, MOST // 2, MOST):
            self.check_cut(words)

    def test_no_set_of_feeders_is_worth_less(self):
        for words in trees(59, 100, 6, 6, 12, 6):
            worths = self.worths(words, sets_of(words.feeders()))
            self.assertEqual(min(worths), total_of(words), words.calls())

    def test_no_row_of_feeders_in_any_order_and_with_some_named_twice_is_worth_less(self):
        for words in trees(60, 25, 4, 5, 12, 6):
            rows = [row for count in range(5) for row in product(words.feeders(), repeat=count)]
            self.assertEqual(min(self.worths(words, rows)), total_of(words), words.calls())

    def test_no_set_of_twelve_feeders_is_worth_less(self):
        draw = Draw(61)
        for _ in range(2):
            words = draw.tree(12, 12, 20, 9)
            words.capacities[0] += 60
            self.assertEqual(min(self.worths(words, sets_of(words.feeders()))), total_of(words), words.calls())


class EveryOrderOfManyPlantsTest(unittest.TestCase):
    def test_drawn_orders_of_twelve(self):
        draw = Draw(62)
        for words in trees(63, 30, 12, 12, MOST // 2, MOST):
            numbers = range(1, len(words.plants) + 1)
            rows = [by(*draw.shuffled(numbers)) for _ in range(20)]
            self.assertEqual({sum(answer) for answer in ask_behind(words.calls(), rows)}, {total_of(words)})


if __name__ == "__main__":
    unittest.main()
