"""byAge and by: shares by an order."""

import unittest
from itertools import permutations

from tests.helper import (BY_AGE, CAP, EVEN, FEEDER, LEAVE, MOST, OPEN, PLANT, Draw, accepted, ask, by, chain, last)

TWO_ARMS = [[OPEN, 10], [FEEDER, 1, 6], [FEEDER, 1, 7], [PLANT, 2, 5], [PLANT, 2, 5], [PLANT, 3, 5]]


class ByAgeTest(unittest.TestCase):
    def test_no_plants(self):
        self.assertEqual(ask([OPEN, 9], [BY_AGE], [FEEDER, 1, 9], [BY_AGE]), [[0], [0], [0, 2], [0]])

    def test_one_feeder(self):
        self.assertEqual(accepted(self, [OPEN, 10], [PLANT, 1, 4], [PLANT, 1, 4], [PLANT, 1, 4], [PLANT, 1, 4],
                                  [BY_AGE]), [0, 4, 4, 2, 0])

    def test_all_fits(self):
        self.assertEqual(accepted(self, [OPEN, 12], [PLANT, 1, 4], [PLANT, 1, 0], [PLANT, 1, 8], [BY_AGE]),
                         [0, 4, 0, 8])

    def test_two_arms(self):
        self.assertEqual(accepted(self, *TWO_ARMS, [BY_AGE]), [0, 5, 1, 4])

    def test_a_feeder_further_up_is_the_narrow_one(self):
        calls = [[OPEN, 90], [FEEDER, 1, 5], [FEEDER, 2, 80], [FEEDER, 3, 70], [PLANT, 4, 3], [PLANT, 3, 9],
                 [PLANT, 1, 99]]
        self.assertEqual(accepted(self, *calls, [BY_AGE]), [0, 3, 2, 85])

    def test_feeder_1_is_the_narrow_one(self):
        calls = chain(12) + [[CAP, 1, 5], [PLANT, 12, 3], [PLANT, 6, 3], [PLANT, 1, 3]]
        self.assertEqual(last(*calls, [BY_AGE]), [0, 3, 2, 0])

    def test_the_narrow_one_is_far_down(self):
        calls = chain(12) + [[CAP, 12, 2], [PLANT, 12, 9], [PLANT, 11, 9]]
        self.assertEqual(last(*calls, [BY_AGE]), [0, 2, 9])

    def test_capacity_0(self):
        calls = [[OPEN, 10], [FEEDER, 1, 0], [FEEDER, 2, 8], [PLANT, 3, 7], [PLANT, 2, 7], [PLANT, 1, 7]]
        self.assertEqual(accepted(self, *calls, [BY_AGE]), [0, 0, 0, 7])
        self.assertEqual(accepted(self, *calls, [CAP, 1, 0], [BY_AGE]), [0, 0, 0, 0])

    def test_great_amounts(self):
        calls = [[OPEN, MOST]] + [[PLANT, 1, MOST - 5], [PLANT, 1, MOST], [PLANT, 1, MOST]]
        self.assertEqual(accepted(self, *calls, [BY_AGE]), [0, MOST - 5, 5, 0])


class ByTest(unittest.TestCase):
    def test_several_orders_of_the_same_plants(self):
        self.assertEqual(
            ask(*TWO_ARMS, by(1, 2, 3), by(1, 3, 2), by(2, 1, 3), by(2, 3, 1), by(3, 1, 2), by(3, 2, 1))[6:],
            [[0, 5, 1, 4], [0, 5, 0, 5], [0, 1, 5, 4], [0, 0, 5, 5], [0, 5, 0, 5], [0, 0, 5, 5]])

    def test_changes_nothing(self):
        self.assertEqual(ask(*TWO_ARMS, by(3, 2, 1), [BY_AGE], by(3, 2, 1))[6:],
                         [[0, 0, 5, 5], [0, 5, 1, 4], [0, 0, 5, 5]])

    def test_after_a_plant_has_left(self):
        calls = TWO_ARMS + [[LEAVE, 2], [PLANT, 3, 9]]
        self.assertEqual(accepted(self, *calls, by(4, 1, 3)), [0, 3, 0, 7])
        self.assertEqual(last(*calls, by(1, 2, 3)), [-6])

    def test_a_number_is_missing(self):
        for row in [by(), by(1), by(1, 2), by(3, 1)]:
            self.assertEqual(last(*TWO_ARMS, row), [-6], row)

    def test_a_number_stands_twice(self):
        for row in [by(1, 1, 2), by(3, 2, 3), by(1, 2, 3, 3), by(1, 2, 3, 1, 2, 3)]:
            self.assertEqual(last(*TWO_ARMS, row), [-6], row)

    def test_a_number_is_no_plants(self):
        for row in [by(1, 2, 4), by(0, 1, 2), by(1, 2, 3, 4), by(-1, -2, -3), by(0, 1, 2, 3)]:
            self.assertEqual(last(*TWO_ARMS, row), [-6], row)

    def test_a_refused_one_changes_nothing(self):
        self.assertEqual(ask(*TWO_ARMS, by(1, 2), [BY_AGE], [EVEN])[7:], [[0, 5, 1, 4], [0, 3, 3, 4]])

    def test_as_the_words_tell(self):
        draw = Draw(7)
        for _ in range(60):
            words = draw.tree(1 + draw.below(6), draw.below(5), 9, 6)
            places = list(range(len(words.plants)))
            orders = list(permutations(places))
            rows = [by(*[place + 1 for place in order]) for order in orders]
            found = ask(*words.calls(), [BY_AGE], *rows)[len(words.calls()):]
            self.assertEqual(found[0], [0] + words.by_order(places))
            for order, answer in zip(orders, found[1:]):
                self.assertEqual(answer, [0] + words.by_order(order), (words.calls(), order))

    def test_twelve_feeders_and_twelve_plants_as_the_words_tell(self):
        draw = Draw(8)
        for _ in range(40):
            words = draw.tree(12, 12, 40, 12)
            order = draw.shuffled(range(12))
            self.assertEqual(last(*words.calls(), by(*[place + 1 for place in order])), [0] + words.by_order(order))


if __name__ == "__main__":
    unittest.main()
