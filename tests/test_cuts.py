"""cut and worth: the feeders that prove that no more can come through."""

import unittest

from tests.helper import (CAP, CUT, FEEDER, LEAVE, MOST, OPEN, PLANT, WANT, Draw, Words, accepted, ask, ask_behind,
                          chain, last, worth)

# 1 - 2 - 4, 1 - 3 - 5 and 3 - 6; one plant at each of 2, 4, 5, 6.
BRANCHES = [[OPEN, 100], [FEEDER, 1, 50], [FEEDER, 1, 40], [FEEDER, 2, 30], [FEEDER, 3, 20], [FEEDER, 3, 10],
            [PLANT, 2, 9], [PLANT, 4, 8], [PLANT, 5, 7], [PLANT, 6, 6]]


class CutTest(unittest.TestCase):
    def check(self, calls, cut):
        self.assertEqual(accepted(self, *calls, [CUT]), [0] + cut)

    def test_no_feeder_stops_anything(self):
        self.check([[OPEN, 0]], [])
        self.check(BRANCHES, [])
        self.check(chain(12), [])
        self.check([[OPEN, 0], [FEEDER, 1, 0], [PLANT, 2, 0], [PLANT, 1, 0]], [])

    def test_the_first_one_stops(self):
        self.check(BRANCHES + [[CAP, 1, 29]], [1])
        self.check([[OPEN, 0], [PLANT, 1, 1]], [1])

    def test_capacity_just_equal_to_the_wish(self):
        self.check(BRANCHES + [[CAP, 1, 30]], [])
        self.check(BRANCHES + [[CAP, 4, 8], [CAP, 2, 17], [CAP, 3, 13], [CAP, 1, 30]], [])
        self.check(BRANCHES + [[CAP, 4, 8], [CAP, 2, 16], [CAP, 3, 13], [CAP, 1, 30]], [2])
        self.check([[OPEN, MOST], [PLANT, 1, MOST]], [])
        self.check([[OPEN, MOST - 1], [PLANT, 1, MOST]], [1])

    def test_several_beside_one_another(self):
        self.check(BRANCHES + [[CAP, 2, 16], [CAP, 3, 12]], [2, 3])
        self.check(BRANCHES + [[CAP, 6, 5], [CAP, 4, 7], [CAP, 5, 6]], [4, 5, 6])
        self.check(BRANCHES + [[CAP, 3, 2], [CAP, 4, 2]], [3, 4])

    def test_one_that_stops_below_one_that_stops(self):
        self.check(BRANCHES + [[CAP, 4, 7], [CAP, 2, 15]], [2])
        self.check(BRANCHES + [[CAP, 4, 7], [CAP, 1, 28]], [1])
        self.check(BRANCHES + [[CAP, 4, 7], [CAP, 5, 1], [CAP, 3, 3], [CAP, 1, 18]], [1])
        self.check(BRANCHES + [[CAP, 4, 7], [CAP, 5, 1], [CAP, 3, 3]], [3, 4])

    def test_a_wish_holds_only_what_can_come_through_below(self):
        self.check(BRANCHES + [[CAP, 4, 1], [CAP, 2, 10]], [4])
        self.check(BRANCHES + [[CAP, 4, 1], [CAP, 2, 10], [CAP, 1, 23]], [4])
        self.check(BRANCHES + [[CAP, 4, 1], [CAP, 2, 10], [CAP, 1, 22]], [1])

    def test_far_down_and_far_up(self):
        calls = chain(12) + [[PLANT, 12, 9], [PLANT, 1, 9]]
        self.check(calls + [[CAP, 12, 8]], [12])
        self.check(calls + [[CAP, 12, 8], [CAP, 6, 8]], [12])
        self.check(calls + [[CAP, 12, 8], [CAP, 6, 7]], [6])
        self.check(calls + [[CAP, 12, 8], [CAP, 6, 7], [CAP, 1, 15]], [1])

    def test_eleven_beside_one_another(self):
        calls = [[OPEN, MOST]] + [[FEEDER, 1, 3]] * 11 + [[PLANT, feeder, 4] for feeder in range(12, 1, -1)]
        self.check(calls, list(range(2, 13)))
        self.check(calls + [[CAP, 1, 33]], list(range(2, 13)))
        self.check(calls + [[CAP, 1, 32]], [1])

    def test_great_wishes(self):
        calls = [[OPEN, MOST]] + [[FEEDER, 1, MOST]] * 11 + [[PLANT, 2, MOST]] * 12
        self.check(calls, [2])
        self.check(calls[:-1] + [[PLANT, 3, 1]], [1])

    def test_after_changes(self):
        self.assertEqual(ask([OPEN, 9], [PLANT, 1, 5], [PLANT, 1, 5], [CUT], [WANT, 1, 4], [CUT], [WANT, 1, 9], [CUT],
                             [LEAVE, 2], [CUT])[3:], [[0, 1], [0], [0], [0], [0, 1], [0], [0]])

    def test_as_the_words_tell(self):
        draw = Draw(31)
        met = set()
        for _ in range(200):
            words = draw.tree(1 + draw.below(12), draw.below(13), 20, 6)
            words.capacities[0] += draw.below(40)
            self.check(words.calls(), words.cut())
            met.add(len(words.cut()))
        self.assertLessEqual({0, 1, 2, 3}, met)


class WorthTest(unittest.TestCase):
    def check(self, calls, row, found):
        self.assertEqual(accepted(self, *calls, worth(*row)), [0, found], row)

    def test_an_empty_row(self):
        self.check(BRANCHES, [], 30)
        self.check([[OPEN, 9]], [], 0)
        self.check([[OPEN, MOST]] + [[PLANT, 1, MOST]] * 12, [], 12 * MOST)

    def test_one_feeder(self):
        for feeder, found in [(1, 100), (2, 63), (3, 57), (4, 52), (5, 43), (6, 34)]:
            self.check(BRANCHES, [feeder], found)

    def test_several_feeders_in_any_order(self):
        for row in [(2, 3), (3, 2)]:
            self.check(BRANCHES, row, 90)
        for row in [(4, 5, 6), (6, 4, 5), (5, 6, 4)]:
            self.check(BRANCHES, row, 69)

    def test_a_feeder_named_twice(self):
        self.check(BRANCHES, [6, 6], 44)
        self.check(BRANCHES, [6, 4, 6], 66)
        self.check(BRANCHES, [1, 1, 1], 300)
        self.check([[OPEN, MOST]], [1] * 12, 12 * MOST)

    def test_one_feeder_below_another(self):
        for row in [(2, 4), (4, 2)]:
            self.check(BRANCHES, row, 93)
        for row in [(1, 6), (6, 1)]:
            self.check(BRANCHES, row, 110)
        self.check(BRANCHES, [1, 2, 3, 4, 5, 6], 250)

    def test_all_twelve(self):
        self.check(chain(12, 7), range(1, 13), 84)

    def test_no_such_feeder(self):
        for row in [(7,), (12,), (1, 7), (7, 1), (1, 2, 3, 4, 5, 6, 7), (2, 12, 2)]:
            self.assertEqual(last(*BRANCHES, worth(*row)), [-3], row)
        self.assertEqual(ask([OPEN, 9], worth(2), [FEEDER, 1, 4], worth(2))[1:], [[-3], [0, 2], [0, 4]])

    def test_after_changes(self):
        calls = BRANCHES + [[CAP, 2, 5], [LEAVE, 3], [WANT, 4, 3], [PLANT, 1, 1]]
        self.assertEqual(ask(*calls, worth(), worth(2), worth(3))[14:], [[0, 21], [0, 9], [0, 58]])

    def test_as_the_words_tell(self):
        draw = Draw(32)
        for _ in range(80):
            words = draw.tree(1 + draw.below(12), draw.below(13), MOST, MOST)
            rows = [[1 + draw.below(len(words.capacities)) for _ in range(draw.below(13))] for _ in range(10)]
            self.assertEqual(ask_behind(words.calls(), [worth(*row) for row in rows]),
                             [[0, words.worth(row)] for row in rows], words.calls())


class HelperTest(unittest.TestCase):
    """What the words tell by the helper, held against numbers reckoned by hand."""

    def test_cut_and_worth(self):
        words = Words([20, 5, 9, 4], [1, 1, 1, 2], [(4, 6), (2, 3), (3, 9), (1, 1)])
        self.assertEqual([words.wish(feeder) for feeder in words.feeders()], [15, 7, 9, 6])
        self.assertEqual(words.cut(), [2])
        self.assertEqual(words.worth([2]), 15)
        self.assertEqual(words.worth([4, 3, 3]), 4 + 9 + 9 + 3 + 1)
        self.assertEqual(words.total(), 15)
        self.assertEqual([words.room(feeder) for feeder in words.feeders()], [5, 0, 0, 0])


if __name__ == "__main__":
    unittest.main()
