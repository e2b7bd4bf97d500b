"""answers(calls): one list in, one list out, nothing changed and nothing kept."""

import io
import unittest
from contextlib import redirect_stderr, redirect_stdout

import plantsdown.feeders
from plantsdown.feeders import answers
from tests.helper import (BOOK, BY_AGE, CAP, CUT, DOWN, EVEN, FEEDER, FLOWS, LEAVE, MOST, OPEN, PLANT, ROOM, TOTAL,
                          WANT, WITHOUT, ask, by, chain, check, join, worth)

SOME_CALLS = [0, 10, 1, 1, 6, 3, 2, 9, 3, 1, 9, 6, 7, 2, 2, 1, 8, 7, 1, 5, 4, 2, 3, 5, 1, 8]
SOME_ANSWERS = [1, 0, 2, 0, 2, 2, 0, 1, 2, 0, 2, 3, 0, 6, 4, 3, 0, 1, 9, 3, 0, 5, 5, 1, -6, 1, 0, 1, 0, 2, 0, 3]
# All eighteen calls; open begins anew, so a second round answers as the first did.
ROUND = [[OPEN, 10], [FEEDER, 1, 6], [CAP, 2, 5], [PLANT, 2, 9], [PLANT, 1, 9], [WANT, 1, 8],
         [BY_AGE], by(2, 1), [EVEN], [TOTAL], [FLOWS, 0], [FLOWS, 1], [ROOM, 1], [CUT], check(5, 4), [DOWN, 0],
         worth(2), [WITHOUT, 2], [BOOK], [LEAVE, 1]]
ROUND_ANSWERS = [[0], [0, 2], [0], [0, 1], [0, 2], [0], [0, 5, 5], [0, 1, 9], [0, 5, 5],
                 [0, 10], [0, 10, 5], [0, 10, 5], [0, 0], [0, 1], [0, 1, 1], [0, 1, 2], [0, 14], [0, 5],
                 [0, 2, 1, 10, 1, 5, 1, 2, 8, 2, 1, 9], [0]]


class Unchanging(list):
    """A list that fails when somebody changes it, be it for a while."""

    def refuse(self, *args, **kwargs):
        raise AssertionError("what is handed in is changed")

    append = extend = insert = pop = remove = clear = sort = reverse = refuse
    __setitem__ = __delitem__ = __iadd__ = __imul__ = refuse


class AnswersTest(unittest.TestCase):
    def test_several_calls_in_one_list(self):
        self.assertEqual(answers(SOME_CALLS), SOME_ANSWERS)

    def test_one_call(self):
        self.assertEqual(answers([0, 5]), [1, 0])
        self.assertEqual(answers([6]), [1, -2])
        self.assertEqual(answers([7, 0]), [1, -2])
        self.assertEqual(answers([7, 20] + [0] * 20), [1, -1])

    def test_whole_numbers_in_a_list(self):
        for calls in [SOME_CALLS, join(ROUND)]:
            told = answers(calls)
            self.assertIs(type(told), list)
            self.assertEqual({type(number) for number in told}, {int})

    def test_two_hundred_calls(self):
        calls = [[OPEN, 6]] + [[PLANT, 1, 5], [WANT, 1, 4], [BY_AGE], [EVEN], by(1)] + [[LEAVE, 1]]
        calls += [[PLANT, 1, 9], [FEEDER, 1, 3]] + [[BY_AGE]] * 191
        self.assertEqual(len(calls), 200)
        found = ask(*calls)
        self.assertEqual(found[:9], [[0], [0, 1], [0], [0, 4], [0, 4], [0, 4], [0], [0, 2], [0, 2]])
        self.assertEqual(found[9:], [[0, 6]] * 191)

    def test_each_of_the_calls(self):
        self.assertEqual({call[0] for call in ROUND}, set(range(18)))
        self.assertEqual(ask(*ROUND), ROUND_ANSWERS)

    def test_two_hundred_calls_with_all_eighteen_among_them(self):
        calls = ROUND * 10
        self.assertEqual(len(calls), 200)
        self.assertEqual(ask(*calls), ROUND_ANSWERS * 10)

    def test_each_of_the_calls_as_it_stands_in_the_list(self):
        self.assertEqual(
            answers([0, 10, 1, 1, 6, 3, 2, 9, 3, 1, 9, 9, 10, 1, 11, 2, 12, 13, 2, 6, 3, 14, 0, 15, 3, 2, 1, 2, 16, 2,
                     17]),
            [1, 0, 2, 0, 2, 2, 0, 1, 2, 0, 2, 2, 0, 10, 3, 0, 10, 5, 2, 0, 0, 2, 0, 1, 3, 0, 1, 1, 3, 0, 1, 2, 2, 0, 22,
             2, 0, 4, 12, 0, 2, 1, 10, 1, 6, 1, 2, 9, 2, 1, 9])

    def test_two_hundred_calls_with_the_longest_rows(self):
        for number in [7, 13, 15]:
            self.assertEqual(answers([0, 5] + ([number, 20] + [1] * 20) * 199), [1, 0] + [1, -1] * 199)

    def test_two_hundred_calls_on_the_greatest_tree(self):
        calls = chain(12) + [[PLANT, 13 - number, MOST - number] for number in range(1, 13)] + [[EVEN]] * 176
        found = ask(*calls)
        self.assertEqual(len(found), 200)
        self.assertEqual(found[24:], [[0] + [83333334] * 4 + [83333333] * 8] * 176)

    def test_the_list_handed_in_is_not_changed(self):
        handed_in = Unchanging(SOME_CALLS)
        self.assertEqual(answers(handed_in), SOME_ANSWERS)
        self.assertEqual(list(handed_in), SOME_CALLS)

    def test_the_list_handed_in_is_not_changed_by_any_of_the_calls(self):
        handed_in = Unchanging(join(ROUND))
        answers(handed_in)
        self.assertEqual(list(handed_in), join(ROUND))

    def test_a_second_time_is_like_the_first(self):
        first = answers(join(ROUND))
        answers(join([[OPEN, 1], [PLANT, 1, 5], [TOTAL]]))
        self.assertEqual(answers(join(ROUND)), first)
        for call in ROUND[1:]:
            self.assertEqual(ask(call), [[-2]], call)

    def test_nothing_is_kept(self):
        self.assertEqual(answers(SOME_CALLS), answers(SOME_CALLS))
        self.assertEqual(answers([6]), [1, -2])
        self.assertEqual(answers(join([[OPEN, 3], [BY_AGE], [PLANT, 1, 2]])), [1, 0, 1, 0, 2, 0, 1])

    def test_what_is_given_back_is_the_callers_own(self):
        told = answers(SOME_CALLS)
        told.clear()
        self.assertEqual(answers(SOME_CALLS), SOME_ANSWERS)

    def test_prints_nothing(self):
        printed = io.StringIO()
        with redirect_stdout(printed), redirect_stderr(printed):
            answers(SOME_CALLS)
            answers(join(ROUND))
        self.assertEqual(printed.getvalue(), "")

    def test_the_name(self):
        self.assertEqual(plantsdown.feeders.answers(calls=[0, 5]), [1, 0])


if __name__ == "__main__":
    unittest.main()
