"""open, feeder, cap, plant, want, leave: what they answer, change and refuse."""

import unittest

from tests.helper import (BOOK, BY_AGE, CAP, CUT, DOWN, EVEN, FEEDER, FLOWS, LEAVE, MOST, OPEN, PLANT, ROOM, TOTAL,
                          WANT, WITHOUT, accepted, ask, by, chain, check, last, worth)

ANY_BUT_OPEN = [[FEEDER, 1, 5], [CAP, 1, 5], [PLANT, 1, 5], [WANT, 1, 5], [LEAVE, 1], [BY_AGE], by(), by(1), [EVEN],
                [TOTAL], [FLOWS, 0], [ROOM, 1], [CUT], check(), [DOWN, 1], worth(), [WITHOUT, 1], [BOOK]]
TWELVE_PLANTS = [[PLANT, 1, 1]] * 12


class OpenTest(unittest.TestCase):
    def test_answers_nothing_more(self):
        self.assertEqual(ask([OPEN, 7]), [[0]])

    def test_feeder_1_has_the_capacity(self):
        self.assertEqual(last([OPEN, 7], [PLANT, 1, 9], [BY_AGE]), [0, 7])

    def test_every_other_call_waits_for_it(self):
        for call in ANY_BUT_OPEN:
            self.assertEqual(ask(call, [OPEN, 5], [BY_AGE]), [[-2], [0], [0]], call)

    def test_a_refused_one_opens_nothing(self):
        self.assertEqual(ask([OPEN, -1], [BY_AGE], [OPEN, MOST + 1], [BY_AGE]), [[-1], [-2], [-1], [-2]])

    def test_a_wrong_number_comes_ahead_of_nothing_open(self):
        calls = [[FEEDER, 0, 5], [FEEDER, 1, -1], [CAP, 13, 5], [CAP, 1, MOST + 1], [PLANT, 0, 5], [PLANT, 1, -1],
                 [WANT, 1, -1], by(*range(13))]
        for call in calls:
            self.assertEqual(ask(call), [[-1]], call)

    def test_nothing_open_comes_ahead_of_what_is_told_with_the_call(self):
        for call in [[FEEDER, 12, 5], [CAP, 2, 5], [PLANT, 2, 5], [WANT, 9, 5], [LEAVE, 9], by(4, 4)]:
            self.assertEqual(ask(call), [[-2]], call)

    def test_again_all_begins_anew(self):
        before = [[OPEN, 3], [FEEDER, 1, 2], [PLANT, 2, 9], [PLANT, 1, 9]]
        self.assertEqual(
            ask(*before, [OPEN, 8], [BY_AGE], [EVEN], by(), [CAP, 2, 5], [PLANT, 2, 5], [WANT, 1, 5], [LEAVE, 2],
                [PLANT, 1, 9], [BY_AGE], [FEEDER, 1, 4], [PLANT, 2, 9], by(2, 1))[4:],
            [[0], [0], [0], [0], [-3], [-3], [-5], [-5], [0, 1], [0, 8], [0, 2], [0, 2], [0, 4, 4]])

    def test_again_after_twelve_of_each(self):
        found = ask(*chain(12), *TWELVE_PLANTS, [OPEN, 5], [FEEDER, 1, 5], [PLANT, 1, 5])
        self.assertEqual(found[-3:], [[0], [0, 2], [0, 1]])

    def test_again_but_refused_leaves_all(self):
        before = [[OPEN, 3], [FEEDER, 1, 2], [PLANT, 2, 9]]
        self.assertEqual(ask(*before, [OPEN, MOST + 1], [BY_AGE], [PLANT, 1, 9], [BY_AGE])[3:],
                         [[-1], [0, 2], [0, 2], [0, 2, 1]])


class FeederTest(unittest.TestCase):
    def test_numbers_go_on_from_1(self):
        self.assertEqual(ask(*chain(12)), [[0]] + [[0, number] for number in range(2, 13)])

    def test_hangs_on_the_one_named(self):
        calls = [[OPEN, 100], [FEEDER, 1, 10], [FEEDER, 1, 20], [FEEDER, 2, 30], [PLANT, 4, 99], [PLANT, 3, 99]]
        self.assertEqual(accepted(self, *calls, [BY_AGE]), [0, 10, 20])

    def test_no_such_feeder(self):
        self.assertEqual(ask([OPEN, 5], [FEEDER, 2, 5], [FEEDER, 12, 5], [FEEDER, 1, 5], [FEEDER, 2, 5], [FEEDER, 4, 5]),
                         [[0], [-3], [-3], [0, 2], [0, 3], [-3]])

    def test_the_thirteenth(self):
        self.assertEqual(ask(*chain(12), [FEEDER, 1, 5], [FEEDER, 12, 5], [FEEDER, 13, 5])[12:], [[-4], [-4], [-1]])

    def test_no_such_feeder_at_eleven(self):
        self.assertEqual(ask(*chain(11), [FEEDER, 12, 5], [FEEDER, 11, 5])[11:], [[-3], [0, 12]])

    def test_a_refused_one_uses_no_number(self):
        self.assertEqual(ask([OPEN, 5], [FEEDER, 2, 5], [FEEDER, 1, -1], [FEEDER, 1, 5])[-1], [0, 2])

    def test_the_refused_thirteenth_changes_nothing(self):
        calls = chain(12) + [[PLANT, 12, 9], [FEEDER, 1, 0], [FEEDER, 12, 0]]
        self.assertEqual(last(*calls, [BY_AGE]), [0, 9])


class CapTest(unittest.TestCase):
    def test_changes_the_one_capacity(self):
        calls = [[OPEN, 50], [FEEDER, 1, 10], [FEEDER, 1, 10], [PLANT, 2, 99], [PLANT, 3, 99]]
        self.assertEqual(ask(*calls, [CAP, 2, 30], [BY_AGE], [CAP, 1, 35], [BY_AGE], [CAP, 2, 0], [BY_AGE])[5:],
                         [[0], [0, 30, 10], [0], [0, 30, 5], [0], [0, 0, 10]])

    def test_no_such_feeder(self):
        self.assertEqual(ask([OPEN, 5], [PLANT, 1, 9], [CAP, 2, 1], [CAP, 12, 1], [BY_AGE])[2:], [[-3], [-3], [0, 5]])

    def test_a_refused_capacity_changes_nothing(self):
        self.assertEqual(ask([OPEN, 5], [PLANT, 1, 9], [CAP, 1, -1], [CAP, 1, MOST + 1], [BY_AGE])[2:],
                         [[-1], [-1], [0, 5]])

    def test_works_on_the_twelfth(self):
        self.assertEqual(last(*chain(12), [PLANT, 12, 9], [CAP, 12, 4], [BY_AGE]), [0, 4])


class PlantTest(unittest.TestCase):
    def test_numbers_go_on_from_1(self):
        self.assertEqual(ask([OPEN, 5], *TWELVE_PLANTS)[1:], [[0, number] for number in range(1, 13)])

    def test_the_thirteenth(self):
        self.assertEqual(ask([OPEN, 50], *TWELVE_PLANTS, [PLANT, 1, 9], [BY_AGE])[13:], [[-4], [0] + [1] * 12])

    def test_no_such_feeder_comes_ahead_of_no_place(self):
        self.assertEqual(ask([OPEN, 50], *TWELVE_PLANTS, [PLANT, 2, 9], [PLANT, 1, 9])[13:], [[-3], [-4]])

    def test_no_such_feeder(self):
        self.assertEqual(ask([OPEN, 5], [PLANT, 2, 9], [PLANT, 12, 9], [BY_AGE], [PLANT, 1, 9])[1:],
                         [[-3], [-3], [0], [0, 1]])

    def test_a_number_is_never_given_again(self):
        self.assertEqual(
            ask([OPEN, 9], [PLANT, 1, 1], [PLANT, 1, 2], [LEAVE, 2], [PLANT, 1, 3], [LEAVE, 1], [LEAVE, 3],
                [PLANT, 1, 4], [BY_AGE])[4:],
            [[0, 3], [0], [0], [0, 4], [0, 4]])

    def test_place_for_one_more_where_one_has_left(self):
        self.assertEqual(ask([OPEN, 50], *TWELVE_PLANTS, [PLANT, 1, 9], [LEAVE, 5], [PLANT, 1, 9], [PLANT, 1, 9])[13:],
                         [[-4], [0], [0, 13], [-4]])

    def test_a_refused_one_uses_no_number(self):
        self.assertEqual(ask([OPEN, 5], [PLANT, 2, 5], [PLANT, 1, -1], [PLANT, 1, 5])[-1], [0, 1])

    def test_numbers_beyond_twelve(self):
        calls = [[OPEN, 5]]
        for number in range(1, 51):
            calls += [[PLANT, 1, 7], [LEAVE, number]]
        self.assertEqual(ask(*calls, [PLANT, 1, 7], [WANT, 51, 3], [WANT, 50, 3], [BY_AGE])[-4:],
                         [[0, 51], [0], [-5], [0, 3]])


class WantTest(unittest.TestCase):
    def test_changes_the_one_and_keeps_its_place(self):
        calls = [[OPEN, 10], [PLANT, 1, 4], [PLANT, 1, 4], [PLANT, 1, 4]]
        self.assertEqual(ask(*calls, [WANT, 2, 5], [BY_AGE], [WANT, 1, 9], [BY_AGE], [WANT, 1, 0], [BY_AGE])[4:],
                         [[0], [0, 4, 5, 1], [0], [0, 9, 1, 0], [0], [0, 0, 5, 4]])

    def test_no_such_plant(self):
        calls = [[OPEN, 10], [PLANT, 1, 4], [PLANT, 1, 4], [LEAVE, 1]]
        self.assertEqual(ask(*calls, [WANT, 1, 9], [WANT, 3, 9], [WANT, 0, 9], [WANT, -2, 9], [BY_AGE])[4:],
                         [[-5], [-5], [-5], [-5], [0, 4]])

    def test_a_refused_amount_changes_nothing(self):
        self.assertEqual(ask([OPEN, 9], [PLANT, 1, 4], [WANT, 1, -1], [WANT, 1, MOST + 1], [BY_AGE])[2:],
                         [[-1], [-1], [0, 4]])

    def test_a_wrong_amount_comes_ahead_of_no_such_plant(self):
        self.assertEqual(last([OPEN, 9], [WANT, 7, -1]), [-1])


class LeaveTest(unittest.TestCase):
    def test_the_others_keep_their_order(self):
        calls = [[OPEN, 10], [PLANT, 1, 3], [PLANT, 1, 4], [PLANT, 1, 5], [PLANT, 1, 6]]
        self.assertEqual(ask(*calls, [LEAVE, 2], [BY_AGE], [LEAVE, 1], [BY_AGE], [LEAVE, 4], [BY_AGE])[5:],
                         [[0], [0, 3, 5, 2], [0], [0, 5, 5], [0], [0, 5]])

    def test_the_last_one(self):
        self.assertEqual(ask([OPEN, 10], [PLANT, 1, 3], [LEAVE, 1], [BY_AGE], [EVEN], by())[2:], [[0], [0], [0], [0]])

    def test_no_such_plant(self):
        self.assertEqual(ask([OPEN, 10], [LEAVE, 1], [PLANT, 1, 3], [LEAVE, 0], [LEAVE, 2], [LEAVE, 1], [LEAVE, 1])[1:],
                         [[-5], [0, 1], [-5], [-5], [0], [-5]])

    def test_a_refused_one_changes_nothing(self):
        self.assertEqual(last([OPEN, 10], [PLANT, 1, 3], [PLANT, 1, 3], [LEAVE, 3], [BY_AGE]), [0, 3, 3])


if __name__ == "__main__":
    unittest.main()
