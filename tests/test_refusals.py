"""total to book: what they refuse, in which order, and that no look changes anything."""

import unittest

from tests.helper import (BELOW_OR_ABOVE, BOOK, BY_AGE, CUT, DOWN, EVEN, FAR, FEEDER, FLOWS, LEAVE, MOST,
                          NO_FEEDER_EVER, NO_RULE, OPEN, PLANT, ROOM, TOTAL, WITHOUT, ask, chain, check, last, worth)

TREE = [[OPEN, 10], [FEEDER, 1, 6], [FEEDER, 1, 7], [PLANT, 2, 5], [PLANT, 2, 5], [PLANT, 3, 5], [LEAVE, 2]]
TOO_LONG = [13, 14, 19, 20]
OUT_OF_RANGE = ([[FLOWS, rule] for rule in NO_RULE] + [[DOWN, rule] for rule in NO_RULE]
                + [[ROOM, feeder] for feeder in NO_FEEDER_EVER]
                + [check(amount) for amount in BELOW_OR_ABOVE] + [check(0, amount) for amount in BELOW_OR_ABOVE]
                + [check(amount, 0) for amount in BELOW_OR_ABOVE] + [check(*[0] * 11, -1)]
                + [check(*[0] * count) for count in TOO_LONG]
                + [worth(feeder) for feeder in NO_FEEDER_EVER] + [worth(1, feeder) for feeder in NO_FEEDER_EVER]
                + [worth(feeder, 1) for feeder in NO_FEEDER_EVER] + [worth(*[1] * 11, 0)]
                + [worth(*[1] * count) for count in TOO_LONG]
                + [[WITHOUT, FAR + 1], [WITHOUT, -FAR - 1]])
IN_RANGE = ([[TOTAL], [FLOWS, 0], [FLOWS, 1], [ROOM, 1], [ROOM, 12], [CUT], check(), check(0), check(MOST, 0),
             check(*[MOST] * 12), [DOWN, 0], [DOWN, 1], worth(), worth(1), worth(12, 1), worth(*range(1, 13)),
             [WITHOUT, 1], [WITHOUT, 0], [WITHOUT, FAR], [WITHOUT, -FAR], [BOOK]])
# What the tree refuses, by the refusal.
OF_THE_CALL = {-3: [[ROOM, 4], [ROOM, 12], worth(4), worth(1, 12), worth(12, 1), worth(*[4] * 12)],
               -5: [[WITHOUT, number] for number in (2, 0, 4, -1, FAR, -FAR, FAR - 1, 1 - FAR)],
               -6: [check(), check(0), check(0, 0, 0), check(*[MOST] * 12)]}
TAKEN = [[TOTAL], [FLOWS, 0], [FLOWS, 1], [ROOM, 1], [ROOM, 3], [CUT], check(5, 5), check(6, 0), [DOWN, 0], [DOWN, 1],
         worth(), worth(2, 2, 3), [WITHOUT, 1], [WITHOUT, 3], [BOOK]]


class OrderTest(unittest.TestCase):
    def test_a_number_out_of_its_range(self):
        for call in OUT_OF_RANGE:
            self.assertEqual(last(*TREE, call), [-1], call)

    def test_a_number_out_of_its_range_comes_ahead_of_nothing_open(self):
        for call in OUT_OF_RANGE:
            self.assertEqual(ask(call), [[-1]], call)

    def test_a_number_out_of_its_range_comes_ahead_of_what_is_told_with_the_call(self):
        for call in [check(-1), check(0, 0, MOST + 1), check(0, 0, 0, -1), worth(4, 13), worth(0, 4), worth(12, -FAR),
                     worth(*[4] * 13), worth(*[12] * 20), check(*[7] * 13), check(*[7] * 20)]:
            self.assertEqual(last(*TREE, call), [-1], call)

    def test_a_feeder_out_of_its_range_where_there_are_twelve(self):
        for feeder in NO_FEEDER_EVER:
            self.assertEqual(ask(*chain(12), [ROOM, feeder], worth(feeder))[12:], [[-1], [-1]], feeder)

    def test_a_long_row_where_there_are_twelve_plants(self):
        calls = [[OPEN, 9]] + [[PLANT, 1, 1]] * 12
        self.assertEqual(ask(*calls, check(*[0] * 12), check(*[0] * 13), check(*[0] * 11))[13:],
                         [[0, 1, 9], [-1], [-6]])

    def test_nothing_open(self):
        for call in IN_RANGE:
            self.assertEqual(ask(call), [[-2]], call)

    def test_nothing_open_behind_an_open_that_is_refused(self):
        for call in IN_RANGE:
            self.assertEqual(ask([OPEN, MOST + 1], call), [[-1], [-2]], call)

    def test_what_is_told_with_the_call(self):
        for refusal, calls in OF_THE_CALL.items():
            for call in calls:
                self.assertEqual(last(*TREE, call), [refusal], call)

    def test_what_is_told_with_the_call_right_behind_open(self):
        self.assertEqual(ask([OPEN, 9], [ROOM, 2], worth(2), [WITHOUT, 1], check(0))[1:], [[-3], [-3], [-5], [-6]])

    def test_the_ends_of_the_ranges_are_in(self):
        calls = chain(12) + [[PLANT, 12, MOST]]
        self.assertEqual(ask(*calls, [ROOM, 1], [ROOM, 12], worth(1), worth(12), check(0), check(MOST), [FLOWS, 0],
                             [FLOWS, 1], [DOWN, 0], [DOWN, 1])[13:],
                         [[0, 0], [0, 0], [0, MOST], [0, MOST], [0, 1, MOST], [0, 1, 0], [0] + [MOST] * 12,
                          [0] + [MOST] * 12, [0], [0]])


class UnchangedTest(unittest.TestCase):
    """Everything is as it was: by all that can be looked at, and by the numbers that come next."""

    LOOKS = TAKEN + [[BY_AGE], [EVEN], [FEEDER, 1, 1], [PLANT, 1, 1], [BOOK]]

    def test_behind_a_refused_call(self):
        wished = ask(*TREE, *self.LOOKS)
        for call in OUT_OF_RANGE + [call for calls in OF_THE_CALL.values() for call in calls]:
            found = ask(*TREE, call, *self.LOOKS)
            self.assertLess(found[len(TREE)][0], 0, call)
            self.assertEqual(found[:len(TREE)] + found[len(TREE) + 1:], wished, call)

    def test_behind_a_call_that_is_taken(self):
        wished = ask(*TREE, *self.LOOKS)
        for call in TAKEN:
            found = ask(*TREE, call, *self.LOOKS)
            self.assertEqual(found[len(TREE)][0], 0, call)
            self.assertEqual(found[:len(TREE)] + found[len(TREE) + 1:], wished, call)

    def test_behind_a_call_where_nothing_is_open(self):
        for call in OUT_OF_RANGE + IN_RANGE:
            self.assertEqual(ask(call, [BOOK], [OPEN, 5], [BOOK], [PLANT, 1, 3])[1:],
                             [[-2], [0], [0, 1, 1, 5], [0, 1]], call)

    def test_what_stands_behind_a_refused_row_is_read_in_its_place(self):
        self.assertEqual(ask([OPEN, 9], check(*[0] * 20), worth(*[17] * 13), [PLANT, 1, 4], check(*[6] * 5), worth(8),
                             worth(*[1] * 20), [TOTAL])[1:],
                         [[-1], [-1], [0, 1], [-6], [-3], [-1], [0, 4]])


if __name__ == "__main__":
    unittest.main()
