"""even: shares as equal as can be."""

import unittest

from tests.helper import BY_AGE, CAP, EVEN, FEEDER, LEAVE, MOST, OPEN, PLANT, WANT, Draw, Words, accepted, ask, chain, last


def one_feeder(capacity, *wants):
    return [[OPEN, capacity]] + [[PLANT, 1, want] for want in wants]


class OneFeederTest(unittest.TestCase):
    def check(self, capacity, wants, shares):
        self.assertEqual(accepted(self, *one_feeder(capacity, *wants), [EVEN]), [0] + shares)

    def test_no_plants(self):
        self.check(9, [], [])

    def test_all_fits(self):
        self.check(9, [4, 0, 5], [4, 0, 5])

    def test_just_equal(self):
        self.check(9, [5, 5, 5], [3, 3, 3])

    def test_single_units_go_by_age(self):
        self.check(10, [5, 5, 5], [4, 3, 3])
        self.check(11, [5, 5, 5], [4, 4, 3])
        self.check(2, [5, 5, 5], [1, 1, 0])
        self.check(0, [5, 5, 5], [0, 0, 0])

    def test_little_wants_beside_much(self):
        self.check(20, [1, 90, 2, 90], [1, 9, 2, 8])
        self.check(20, [90, 90, 0, 3], [9, 8, 0, 3])
        self.check(12, [3, 4, 90], [3, 4, 5])
        self.check(11, [3, 4, 90], [3, 4, 4])
        self.check(11, [90, 4, 4], [4, 4, 3])

    def test_a_unit_goes_past_an_older_plant_that_wants_no_more(self):
        self.check(7, [2, 9, 9], [2, 3, 2])
        self.check(8, [2, 9, 9], [2, 3, 3])

    def test_great_amounts(self):
        self.check(MOST, [MOST], [MOST])
        self.check(MOST, [MOST] * 3, [333333334, 333333333, 333333333])
        self.check(MOST, [1, MOST, MOST, MOST - 1], [1, 333333333, 333333333, 333333333])
        self.check(MOST - 1, [MOST, MOST], [MOST // 2, MOST // 2 - 1])
        self.check(MOST, [MOST] * 12, [83333334] * 4 + [83333333] * 8)


class TreeTest(unittest.TestCase):
    def test_a_narrow_feeder_leaves_more_to_the_others(self):
        calls = [[OPEN, 20], [FEEDER, 1, 5], [PLANT, 2, 9], [PLANT, 2, 9], [PLANT, 1, 30]]
        self.assertEqual(accepted(self, *calls, [EVEN]), [0, 3, 2, 15])

    def test_a_narrow_feeder_further_up(self):
        calls = [[OPEN, 90], [FEEDER, 1, 7], [FEEDER, 2, 80], [FEEDER, 2, 2], [PLANT, 3, 9], [PLANT, 4, 9],
                 [PLANT, 3, 9], [PLANT, 4, 1], [PLANT, 1, 99]]
        self.assertEqual(accepted(self, *calls, [EVEN]), [0, 3, 1, 2, 1, 83])

    def test_a_unit_that_an_older_plant_cannot_take_goes_to_a_younger_one(self):
        calls = [[OPEN, 5], [FEEDER, 1, 1], [PLANT, 2, 9], [PLANT, 1, 9], [PLANT, 1, 9]]
        self.assertEqual(accepted(self, *calls, [EVEN]), [0, 1, 2, 2])

    def test_capacity_0(self):
        calls = [[OPEN, 9], [FEEDER, 1, 0], [FEEDER, 2, 9], [PLANT, 3, 5], [PLANT, 1, 5], [PLANT, 2, 5], [PLANT, 1, 5]]
        self.assertEqual(ask(*calls, [EVEN], [CAP, 1, 0], [EVEN])[7:], [[0, 0, 5, 0, 4], [0], [0, 0, 0, 0, 0]])

    def test_after_changes(self):
        calls = one_feeder(11, 5, 5, 5)
        self.assertEqual(ask(*calls, [EVEN], [WANT, 1, 1], [EVEN], [LEAVE, 2], [EVEN], [PLANT, 1, 7], [EVEN])[4:],
                         [[0, 4, 4, 3], [0], [0, 1, 5, 5], [0], [0, 1, 5], [0, 4], [0, 1, 5, 5]])

    def test_changes_nothing(self):
        calls = one_feeder(11, 5, 9, 5)
        self.assertEqual(ask(*calls, [EVEN], [BY_AGE], [EVEN])[4:], [[0, 4, 4, 3], [0, 5, 6, 0], [0, 4, 4, 3]])

    def test_twelve_steps_of_narrowness(self):
        calls = chain(12)
        for feeder in range(1, 13):
            calls = calls + [[CAP, feeder, 1000 * (13 - feeder) ** 2], [PLANT, feeder, MOST]]
        steps = [1000 * (2 * (12 - feeder) + 1) for feeder in range(1, 13)]
        self.assertEqual(last(*calls, [EVEN]), [0] + steps)


class WordsTest(unittest.TestCase):
    """Held against all shares that fit, tried one by one."""

    def check(self, words):
        self.assertEqual(last(*words.calls(), [EVEN]), [0] + words.even(), words.calls())

    def test_one_feeder(self):
        for capacity in range(12):
            for wants in [(3, 3, 3), (0, 3, 4), (4, 1, 3), (1, 2, 4), (4, 2, 1), (2, 2, 2, 2), (1, 3, 1, 3)]:
                self.check(Words([capacity], [1], [(1, want) for want in wants]))

    def test_two_feeders(self):
        for outer in range(8):
            for inner in range(6):
                for feeders in [(1, 2, 2), (2, 1, 2), (2, 2, 1), (1, 1, 2)]:
                    self.check(Words([outer, inner], [1, 1], [(feeder, 3) for feeder in feeders]))

    def test_drawn_trees(self):
        draw = Draw(1)
        for _ in range(300):
            self.check(draw.tree(1 + draw.below(5), draw.below(5), 9, 4))

    def test_drawn_trees_of_twelve_feeders(self):
        draw = Draw(2)
        for _ in range(60):
            self.check(draw.tree(12, 5, 8, 3))


class NoBetterNeighbourTest(unittest.TestCase):
    """Where there are too many shares to try them all: no unit can be added or moved to make them better."""

    def moved(self, shares, giver, taker):
        found = list(shares)
        found[taker] += 1
        if giver is not None:
            found[giver] -= 1
        return found

    def check(self, words):
        shares = last(*words.calls(), [EVEN])[1:]
        self.assertTrue(words.fit(shares), words.calls())
        places = range(len(shares))
        for taker in places:
            for giver in [None, *places]:
                other = self.moved(shares, giver, taker)
                if giver != taker and words.fit(other):
                    self.assertLess((sorted(other), other), (sorted(shares), shares), words.calls())

    def test_great_amounts(self):
        draw = Draw(3)
        for _ in range(60):
            self.check(draw.tree(1 + draw.below(12), 12, MOST, MOST))

    def test_amounts_near_the_most(self):
        draw = Draw(4)
        for _ in range(30):
            words = draw.tree(1 + draw.below(12), 12, MOST, 9)
            words.plants = [(feeder, MOST - want) for feeder, want in words.plants]
            self.check(words)

    def test_small_amounts(self):
        draw = Draw(5)
        for _ in range(100):
            self.check(draw.tree(1 + draw.below(12), 12, 30, 12))


if __name__ == "__main__":
    unittest.main()
