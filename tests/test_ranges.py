"""Numbers at and beyond the ends of their ranges, and rows of many numbers."""

import unittest

from tests.helper import (BELOW_OR_ABOVE, BY_AGE, CAP, EVEN, FAR, FEEDER, LEAVE, MOST, NO_FEEDER_EVER, OPEN, PLANT,
                          WANT, ask, by, chain, last)


class AmountsTest(unittest.TestCase):
    def test_the_ends_are_in(self):
        for amount in [0, 1, MOST - 1, MOST]:
            self.assertEqual(
                ask([OPEN, amount], [FEEDER, 1, amount], [CAP, 2, amount], [PLANT, 2, amount], [WANT, 1, amount],
                    [BY_AGE], by(1), [EVEN]),
                [[0], [0, 2], [0], [0, 1], [0], [0, amount], [0, amount], [0, amount]])

    def test_beyond_the_ends(self):
        for amount in BELOW_OR_ABOVE:
            self.assertEqual(
                ask([OPEN, amount], [OPEN, 6], [OPEN, amount], [FEEDER, 1, amount], [CAP, 1, amount],
                    [PLANT, 1, amount], [PLANT, 1, 9], [WANT, 1, amount], [BY_AGE], [FEEDER, 1, 3]),
                [[-1], [0], [-1], [-1], [-1], [-1], [0, 1], [-1], [0, 6], [0, 2]])


class FeederNumbersTest(unittest.TestCase):
    def test_beyond_the_ends(self):
        for feeder in NO_FEEDER_EVER:
            for call in [[FEEDER, feeder, 5], [CAP, feeder, 5], [PLANT, feeder, 5]]:
                self.assertEqual(last(call), [-1], call)
                self.assertEqual(last([OPEN, 9], call), [-1], call)
                self.assertEqual(last(*chain(12), call), [-1], call)

    def test_in_the_range_but_not_there(self):
        for feeder in [2, 12]:
            for call in [[FEEDER, feeder, 5], [CAP, feeder, 5], [PLANT, feeder, 5]]:
                self.assertEqual(last([OPEN, 9], call), [-3], call)

    def test_the_ends_are_in(self):
        self.assertEqual(ask(*chain(12), [CAP, 1, 5], [CAP, 12, 3], [PLANT, 1, 9], [PLANT, 12, 9], by(2, 1))[12:],
                         [[0], [0], [0, 1], [0, 2], [0, 2, 3]])


class PlantNumbersTest(unittest.TestCase):
    def test_every_number_may_be_asked_for(self):
        for number in [0, -1, 2, 13, FAR, -FAR, FAR - 1, 1 - FAR]:
            self.assertEqual(ask([WANT, number, 5], [LEAVE, number]), [[-2], [-2]])
            self.assertEqual(ask([OPEN, 9], [PLANT, 1, 4], [WANT, number, 5], [LEAVE, number], [BY_AGE])[2:],
                             [[-5], [-5], [0, 4]])

    def test_beyond_every_range(self):
        for number in [FAR + 1, -FAR - 1]:
            self.assertEqual(ask([OPEN, 9], [WANT, number, 5], [LEAVE, number], by(number)),
                             [[0], [-1], [-1], [-1]])


class RowsTest(unittest.TestCase):
    def test_rows_that_are_too_long(self):
        for count in [13, 14, 19, 20]:
            row = by(*range(1, count + 1))
            self.assertEqual(ask(row, [OPEN, 9], row, [PLANT, 1, 4], row, [BY_AGE]),
                             [[-1], [0], [-1], [0, 1], [-1], [0, 4]])

    def test_a_row_of_twelve(self):
        self.assertEqual(ask(by(*range(1, 13)), [OPEN, 9], by(*range(1, 13))), [[-2], [0], [-6]])
        plants = [[PLANT, 1, 1]] * 12
        self.assertEqual(last([OPEN, 9], *plants, by(*range(12, 0, -1))), [0] + [0] * 3 + [1] * 9)

    def test_a_row_of_none(self):
        self.assertEqual(ask(by(), [OPEN, 9], by(), [PLANT, 1, 4], by()), [[-2], [0], [0], [0, 1], [-6]])

    def test_numbers_far_off_in_a_row(self):
        for number in [FAR, -FAR, FAR - 1, 1 - FAR]:
            self.assertEqual(ask(by(number), [OPEN, 9], by(number), [PLANT, 1, 4], by(number), by(1, number)),
                             [[-2], [0], [-6], [0, 1], [-6], [-6]])

    def test_what_stands_behind_a_refused_row_is_read_in_its_place(self):
        self.assertEqual(ask([OPEN, 9], by(*[0] * 20), [PLANT, 1, 4], by(*[3] * 13), by(1)),
                         [[0], [-1], [0, 1], [-1], [0, 4]])


if __name__ == "__main__":
    unittest.main()
