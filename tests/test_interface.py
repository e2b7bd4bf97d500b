"""answers(calls): one list in, one list out, nothing changed and nothing kept."""

import io
import unittest
from contextlib import redirect_stderr, redirect_stdout

import plantsdown.feeders
from plantsdown.feeders import answers
from tests.helper import BY_AGE, EVEN, FEEDER, LEAVE, MOST, OPEN, PLANT, WANT, ask, by, chain, join

SOME_CALLS = [0, 10, 1, 1, 6, 3, 2, 9, 3, 1, 9, 6, 7, 2, 2, 1, 8, 7, 1, 5, 4, 2, 3, 5, 1, 8]
SOME_ANSWERS = [1, 0, 2, 0, 2, 2, 0, 1, 2, 0, 2, 3, 0, 6, 4, 3, 0, 1, 9, 3, 0, 5, 5, 1, -6, 1, 0, 1, 0, 2, 0, 3]
UNBUILT = [[9], [10, 0], [11, 1], [12], [13, 2, 6, 7], [14, 1], [15, 3, 8, 8, 8], [16, 5], [17]]


class Unchanging(list):
    """A list that fails when somebody changes it, be it for a while."""

    def refuse(self, *args, **kwargs):
        raise AssertionError("what is handed in is changed")

    append = extend = insert = pop = remove = clear = sort = reverse = refuse
    __setitem__ = __delitem__ = __iadd__ = __imul__ = refuse


class AnswersTest(unittest.TestCase):
    def test_several_calls_in_one_list(self):
        self.assertEqual(answers(SOME_CALLS), SOME_ANSWERS)

    def test_one_call(self):
        self.assertEqual(answers([0, 5]), [1, 0])
        self.assertEqual(answers([6]), [1, -2])
        self.assertEqual(answers([7, 0]), [1, -2])
        self.assertEqual(answers([7, 20] + [0] * 20), [1, -1])

    def test_whole_numbers_in_a_list(self):
        told = answers(SOME_CALLS)
        self.assertIs(type(told), list)
        self.assertEqual({type(number) for number in told}, {int})

    def test_two_hundred_calls(self):
        calls = [[OPEN, 6]] + [[PLANT, 1, 5], [WANT, 1, 4], [BY_AGE], [EVEN], by(1)] + [[LEAVE, 1]]
        calls += [[PLANT, 1, 9], [FEEDER, 1, 3]] + [[BY_AGE]] * 191
        self.assertEqual(len(calls), 200)
        found = ask(*calls)
        self.assertEqual(found[:9], [[0], [0, 1], [0], [0, 4], [0, 4], [0, 4], [0], [0, 2], [0, 2]])
        self.assertEqual(found[9:], [[0, 6]] * 191)

    def test_two_hundred_calls_with_the_longest_rows(self):
        self.assertEqual(answers([0, 5] + ([7, 20] + [1] * 20) * 199), [1, 0] + [1, -1] * 199)

    def test_two_hundred_calls_on_the_greatest_tree(self):
        calls = chain(12) + [[PLANT, 13 - number, MOST - number] for number in range(1, 13)] + [[EVEN]] * 176
        found = ask(*calls)
        self.assertEqual(len(found), 200)
        self.assertEqual(found[24:], [[0] + [83333334] * 4 + [83333333] * 8] * 176)

    def test_the_list_handed_in_is_not_changed(self):
        handed_in = Unchanging(SOME_CALLS)
        self.assertEqual(answers(handed_in), SOME_ANSWERS)
        self.assertEqual(list(handed_in), SOME_CALLS)

    def test_nothing_is_kept(self):
        self.assertEqual(answers(SOME_CALLS), answers(SOME_CALLS))
        self.assertEqual(answers([6]), [1, -2])
        self.assertEqual(answers(join([[OPEN, 3], [BY_AGE], [PLANT, 1, 2]])), [1, 0, 1, 0, 2, 0, 1])

    def test_what_is_given_back_is_the_callers_own(self):
        told = answers(SOME_CALLS)
        told.clear()
        self.assertEqual(answers(SOME_CALLS), SOME_ANSWERS)

    def test_prints_nothing(self):
        printed = io.StringIO()
        with redirect_stdout(printed), redirect_stderr(printed):
            answers(SOME_CALLS)
        self.assertEqual(printed.getvalue(), "")

    def test_the_name(self):
        self.assertEqual(plantsdown.feeders.answers(calls=[0, 5]), [1, 0])

    def test_calls_that_are_not_built_are_passed_over_whole(self):
        for call in UNBUILT:
            self.assertEqual(ask([OPEN, 9], [PLANT, 1, 4], call, [BY_AGE])[3], [0, 4], call)


if __name__ == "__main__":
    unittest.main()
