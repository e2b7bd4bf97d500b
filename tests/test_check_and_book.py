"""check and book: shares held against the tree, and all that is kept."""

import unittest
from itertools import product

from tests.helper import (BOOK, BY_AGE, CAP, EVEN, FEEDER, LEAVE, MOST, OPEN, PLANT, WANT, Draw, ask, ask_behind, by,
                          chain, check, last)

TWO_ARMS = [[OPEN, 10], [FEEDER, 1, 6], [FEEDER, 1, 7], [PLANT, 2, 5], [PLANT, 2, 5], [PLANT, 3, 5]]


class CheckTest(unittest.TestCase):
    def test_shares_that_have_the_totals_sum(self):
        for shares in [(5, 1, 4), (0, 5, 5), (3, 3, 4), (1, 4, 5)]:
            self.assertEqual(last(*TWO_ARMS, check(*shares)), [0, 1, 0], shares)

    def test_shares_that_are_less(self):
        for shares, less in [((0, 0, 0), 10), ((5, 0, 4), 1), ((0, 0, 5), 5), ((3, 3, 3), 1)]:
            self.assertEqual(last(*TWO_ARMS, check(*shares)), [0, 1, less], shares)

    def test_a_share_above_what_its_plant_wants(self):
        for shares in [(6, 0, 0), (0, 6, 0), (0, 0, 6), (0, 0, MOST)]:
            self.assertEqual(last(*TWO_ARMS, check(*shares)), [0, 0], shares)
        self.assertEqual(ask([OPEN, 9], [PLANT, 1, 0], check(1), check(0))[2:], [[0, 0], [0, 1, 0]])

    def test_through_a_feeder_more_than_its_capacity(self):
        for shares in [(5, 2, 0), (2, 5, 3), (3, 4, 0), (5, 1, 5), (3, 3, 5)]:
            self.assertEqual(last(*TWO_ARMS, check(*shares)), [0, 0], shares)

    def test_through_a_feeder_far_up_or_far_down(self):
        calls = chain(12) + [[PLANT, 12, 9], [PLANT, 6, 9]]
        for feeder, found in [(12, [0, 1, 8]), (7, [0, 1, 8]), (6, [0, 0]), (2, [0, 0]), (1, [0, 0])]:
            self.assertEqual(last(*calls, [CAP, feeder, 9], check(9, 1)), found, feeder)
        self.assertEqual(last(*calls, [CAP, 12, 8], check(9, 1)), [0, 0])
        self.assertEqual(last(*calls, [CAP, 12, 8], check(8, 1)), [0, 1, 8])

    def test_too_few_and_too_many(self):
        for row in [(), (5,), (5, 1), (5, 1, 4, 0), (0,) * 12]:
            self.assertEqual(last(*TWO_ARMS, check(*row)), [-6], row)
        self.assertEqual(ask([OPEN, 5], check(0), [PLANT, 1, 5], check(), check(0, 0), check(4))[1:],
                         [[-6], [0, 1], [-6], [-6], [0, 1, 1]])

    def test_no_plants(self):
        self.assertEqual(ask([OPEN, 5], check(), [CAP, 1, 0], check())[1:], [[0, 1, 0], [0], [0, 1, 0]])
        self.assertEqual(last([OPEN, 5], [PLANT, 1, 3], [LEAVE, 1], check()), [0, 1, 0])

    def test_twelve_plants(self):
        calls = chain(12) + [[PLANT, feeder, MOST] for feeder in range(1, 13)]
        self.assertEqual(ask(*calls, check(*[0] * 12), check(*[MOST] * 12), check(*[83333333] * 12),
                             check(*[83333333] * 11, 83333337), check(*[83333333] * 11, 83333338))[24:],
                         [[0, 1, MOST], [0, 0], [0, 1, 4], [0, 1, 0], [0, 0]])

    def test_shares_stand_in_order_of_entry_when_plants_have_left(self):
        calls = [[OPEN, 20], [PLANT, 1, 3], [PLANT, 1, 4], [PLANT, 1, 5], [LEAVE, 1], [PLANT, 1, 2], [WANT, 2, 6]]
        self.assertEqual(ask(*calls, check(6, 5, 2), check(5, 6, 2), check(6, 5, 3), check(1, 2, 1))[7:],
                         [[0, 1, 0], [0, 0], [0, 0], [0, 1, 9]])

    def test_what_the_rules_answer_is_short_of_nothing(self):
        draw = Draw(41)
        for _ in range(40):
            words = draw.tree(1 + draw.below(12), draw.below(13), MOST, MOST)
            order = by(*[place + 1 for place in draw.shuffled(range(len(words.plants)))])
            for look in [[BY_AGE], [EVEN], order]:
                shares = last(*words.calls(), look)[1:]
                self.assertEqual(last(*words.calls(), check(*shares)), [0, 1, 0], words.calls())

    def test_as_the_words_tell(self):
        draw = Draw(42)
        for _ in range(25):
            words = draw.tree(1 + draw.below(6), draw.below(4), 9, 4)
            total = words.total()
            rows = list(product(*[range(want + 2) for feeder, want in words.plants]))
            wished = [[0, 1, total - sum(row)] if words.fit(row) else [0, 0] for row in rows]
            self.assertEqual(ask_behind(words.calls(), [check(*row) for row in rows]), wished, words.calls())


class BookTest(unittest.TestCase):
    def test_right_behind_open(self):
        self.assertEqual(ask([OPEN, 7], [BOOK], [OPEN, 0], [BOOK]), [[0], [0, 1, 1, 7], [0], [0, 1, 1, 0]])

    def test_the_feeder_on_which_each_hangs(self):
        calls = [[OPEN, 9], [FEEDER, 1, 8], [FEEDER, 2, 7], [FEEDER, 1, 6], [FEEDER, 3, 5], [FEEDER, 3, 4]]
        self.assertEqual(last(*calls, [BOOK]), [0, 6, 1, 9, 1, 8, 2, 7, 1, 6, 3, 5, 3, 4])

    def test_plants_in_order_of_entry(self):
        self.assertEqual(last(*TWO_ARMS, [BOOK]), [0, 3, 1, 10, 1, 6, 1, 7, 1, 2, 5, 2, 2, 5, 3, 3, 5])

    def test_behind_cap_want_and_leave(self):
        calls = TWO_ARMS + [[CAP, 1, 20], [CAP, 3, 0], [BOOK], [WANT, 1, 8], [WANT, 3, MOST], [BOOK], [LEAVE, 2],
                            [BOOK], [PLANT, 1, 0], [BOOK], [LEAVE, 1], [LEAVE, 3], [LEAVE, 4], [BOOK]]
        feeders = [0, 3, 1, 20, 1, 6, 1, 0]
        self.assertEqual([found for found in ask(*calls) if len(found) > 2],
                         [feeders + [1, 2, 5, 2, 2, 5, 3, 3, 5],
                          feeders + [1, 2, 8, 2, 2, 5, 3, 3, MOST],
                          feeders + [1, 2, 8, 3, 3, MOST],
                          feeders + [1, 2, 8, 3, 3, MOST, 4, 1, 0],
                          feeders])

    def test_behind_open_again(self):
        self.assertEqual(last(*TWO_ARMS, [OPEN, 3], [BOOK]), [0, 1, 1, 3])
        self.assertEqual(last(*TWO_ARMS, [OPEN, 3], [FEEDER, 1, 2], [PLANT, 2, 4], [BOOK]), [0, 2, 1, 3, 1, 2, 1, 2, 4])

    def test_twelve_of_each(self):
        calls = chain(12) + [[PLANT, 13 - number, MOST - number] for number in range(1, 13)]
        feeders = [1, MOST] + [number for upper in range(1, 12) for number in (upper, MOST)]
        plants = [number for n in range(1, 13) for number in (n, 13 - n, MOST - n)]
        self.assertEqual(last(*calls, [BOOK]), [0, 12] + feeders + plants)

    def test_numbers_beyond_twelve(self):
        calls = [[OPEN, 5]]
        for number in range(1, 51):
            calls += [[PLANT, 1, 7], [LEAVE, number]]
        self.assertEqual(last(*calls, [PLANT, 1, 6], [BOOK]), [0, 1, 1, 5, 51, 1, 6])


if __name__ == "__main__":
    unittest.main()
