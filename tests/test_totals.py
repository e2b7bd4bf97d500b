"""total, flows, down, room, without: what goes through, and what would."""

import unittest

from tests.helper import (BOOK, BY_AGE, CAP, DOWN, EVEN, FEEDER, FLOWS, LEAVE, MOST, OPEN, PLANT, ROOM, TOTAL, WANT,
                          WITHOUT, Draw, accepted, ask, chain, last)

TWO_ARMS = [[OPEN, 10], [FEEDER, 1, 6], [FEEDER, 1, 7], [PLANT, 2, 5], [PLANT, 2, 5], [PLANT, 3, 5]]


def near_the_most():
    """Twelve feeders and twelve plants, all amounts near the most."""
    calls = [[OPEN, MOST - 1]] + [[FEEDER, 1 + feeder // 2, MOST - feeder] for feeder in range(1, 12)]
    return calls + [[PLANT, feeder, MOST - 13 + feeder] for feeder in range(1, 13)]


class TotalTest(unittest.TestCase):
    def check(self, calls, total):
        self.assertEqual(accepted(self, *calls, [TOTAL]), [0, total])

    def test_no_plants(self):
        self.check([[OPEN, 9]], 0)
        self.check(chain(12), 0)
        self.check([[OPEN, 9], [PLANT, 1, 5], [LEAVE, 1]], 0)

    def test_plants_that_all_want_0(self):
        self.check([[OPEN, 9], [FEEDER, 1, 9]] + [[PLANT, 1 + place % 2, 0] for place in range(12)], 0)

    def test_all_fits(self):
        self.check([[OPEN, 9], [PLANT, 1, 4], [PLANT, 1, 3]], 7)
        self.check([[OPEN, 7], [PLANT, 1, 4], [PLANT, 1, 3]], 7)

    def test_some_are_turned_down(self):
        self.check([[OPEN, 6], [PLANT, 1, 4], [PLANT, 1, 3]], 6)
        self.check(TWO_ARMS, 10)
        self.check(TWO_ARMS + [[CAP, 1, 20]], 11)
        self.check(TWO_ARMS + [[CAP, 1, 20], [CAP, 2, 3], [CAP, 3, 4]], 7)

    def test_capacity_0_far_up(self):
        plants = [[PLANT, feeder, 5] for feeder in range(1, 13)]
        self.check(chain(12) + plants + [[CAP, 1, 0]], 0)
        self.check(chain(12) + plants + [[CAP, 2, 0]], 5)

    def test_capacity_0_far_down(self):
        plants = [[PLANT, feeder, 5] for feeder in range(1, 13)]
        self.check(chain(12) + plants + [[CAP, 12, 0]], 55)
        self.check(chain(12) + plants + [[CAP, 11, 0]], 50)

    def test_amounts_near_the_most(self):
        self.check(near_the_most(), MOST - 1)
        self.check(near_the_most() + [[CAP, 1, MOST]], MOST)
        self.check(chain(12) + [[PLANT, feeder, MOST] for feeder in range(1, 13)], MOST)
        below = [[CAP, feeder, 83000000 + feeder] for feeder in range(2, 13)]
        star = [[OPEN, MOST]] + [[FEEDER, 1, MOST]] * 11 + below + [[PLANT, feeder, MOST] for feeder in range(2, 13)]
        self.check(star, 11 * 83000000 + sum(range(2, 13)))
        self.check(star + [[PLANT, 1, MOST - 1]], MOST)

    def test_after_changes(self):
        changes = [[TOTAL], [WANT, 3, 2], [TOTAL], [LEAVE, 1], [TOTAL], [PLANT, 1, 9], [TOTAL]]
        self.assertEqual(ask(*TWO_ARMS, *changes)[6:],
                         [[0, 10], [0], [0, 8], [0], [0, 7], [0, 4], [0, 10]])

    def test_as_the_words_tell(self):
        draw = Draw(21)
        for _ in range(80):
            words = draw.tree(1 + draw.below(12), draw.below(13), 40, 12)
            self.check(words.calls(), words.total())


class FlowsTest(unittest.TestCase):
    def test_by_age_and_as_equally_as_can_be(self):
        calls = TWO_ARMS + [[CAP, 1, 7], [FEEDER, 2, 1], [PLANT, 4, 5]]
        self.assertEqual(ask(*calls, [BY_AGE], [FLOWS, 0], [EVEN], [FLOWS, 1])[9:],
                         [[0, 5, 1, 1, 0], [0, 7, 6, 1, 0], [0, 2, 2, 2, 1], [0, 7, 5, 2, 1]])

    def test_no_plants(self):
        for rule in [0, 1]:
            self.assertEqual(accepted(self, [OPEN, 9], [FLOWS, rule]), [0, 0])
            self.assertEqual(accepted(self, *chain(12), [FLOWS, rule]), [0] + [0] * 12)

    def test_feeders_with_no_plant_below(self):
        calls = [[OPEN, 9], [FEEDER, 1, 9], [FEEDER, 2, 9], [FEEDER, 1, 9], [FEEDER, 4, 9], [PLANT, 2, 3],
                 [PLANT, 4, 4]]
        for rule in [0, 1]:
            self.assertEqual(accepted(self, *calls, [FLOWS, rule]), [0, 7, 3, 0, 4, 0])

    def test_from_feeder_1_on_also_behind_cap(self):
        calls = chain(12) + [[PLANT, feeder, 1] for feeder in range(1, 13)] + [[CAP, 3, 50], [CAP, 1, 60]]
        for rule in [0, 1]:
            self.assertEqual(accepted(self, *calls, [FLOWS, rule]), [0] + list(range(12, 0, -1)))

    def test_after_plants_have_left(self):
        calls = TWO_ARMS + [[LEAVE, 1], [PLANT, 1, 9]]
        self.assertEqual(ask(*calls, [FLOWS, 0], [FLOWS, 1])[8:], [[0, 10, 5, 5], [0, 10, 4, 3]])

    def test_as_the_words_tell(self):
        draw = Draw(22)
        for _ in range(80):
            words = draw.tree(1 + draw.below(6), draw.below(5), 9, 5)
            for rule in [0, 1]:
                self.assertEqual(accepted(self, *words.calls(), [FLOWS, rule]),
                                 [0] + words.flows(words.by_rule(rule)), words.calls())

    def test_twelve_feeders_as_the_shares_tell(self):
        draw = Draw(23)
        for _ in range(30):
            words = draw.tree(12, 12, MOST, MOST)
            for rule, shares in enumerate(ask(*words.calls(), [BY_AGE], [EVEN])[24:]):
                self.assertEqual(last(*words.calls(), [FLOWS, rule]), [0] + words.flows(shares[1:]), words.calls())


class DownTest(unittest.TestCase):
    def test_by_age_and_as_equally_as_can_be(self):
        calls = [[OPEN, 10], [PLANT, 1, 4], [PLANT, 1, 2], [PLANT, 1, 5], [PLANT, 1, 1]]
        self.assertEqual(ask(*calls, [BY_AGE], [DOWN, 0], [EVEN], [DOWN, 1])[5:],
                         [[0, 4, 2, 4, 0], [0, 3, 4], [0, 4, 2, 3, 1], [0, 3]])

    def test_none_is_turned_down(self):
        for rule in [0, 1]:
            self.assertEqual(accepted(self, [OPEN, 0], [DOWN, rule]), [0])
            self.assertEqual(accepted(self, [OPEN, 9], [PLANT, 1, 4], [PLANT, 1, 5], [DOWN, rule]), [0])

    def test_one_that_wants_0_gets_no_less(self):
        for rule in [0, 1]:
            plants = [[PLANT, 1, 0], [PLANT, 1, 1], [PLANT, 1, 0]]
            self.assertEqual(accepted(self, [OPEN, 0], *plants, [DOWN, rule]), [0, 2])

    def test_all_are_turned_down(self):
        plants = [[PLANT, 1, 1 + place] for place in range(12)]
        for rule in [0, 1]:
            self.assertEqual(accepted(self, [OPEN, 0], *plants, [DOWN, rule]), [0] + list(range(1, 13)))

    def test_numbers_in_order_of_entry_after_plants_have_left(self):
        calls = [[OPEN, 5]] + [[PLANT, 1, 4]] * 5 + [[LEAVE, 1], [LEAVE, 4], [PLANT, 1, 4], [WANT, 2, 4]]
        self.assertEqual(ask(*calls, [DOWN, 0], [DOWN, 1])[10:], [[0, 3, 5, 6], [0, 2, 3, 5, 6]])

    def test_by_a_feeder_further_up(self):
        calls = [[OPEN, 90], [FEEDER, 1, 5], [FEEDER, 2, 80], [PLANT, 3, 3], [PLANT, 1, 40], [PLANT, 3, 9],
                 [PLANT, 2, 1]]
        self.assertEqual(ask(*calls, [DOWN, 0], [DOWN, 1])[7:], [[0, 3, 4], [0, 1, 3]])

    def test_as_the_words_tell(self):
        draw = Draw(24)
        for _ in range(80):
            words = draw.tree(1 + draw.below(6), draw.below(5), 9, 5)
            for rule in [0, 1]:
                shares = words.by_rule(rule)
                numbers = [place + 1 for place, share in enumerate(shares) if share < words.plants[place][1]]
                self.assertEqual(accepted(self, *words.calls(), [DOWN, rule]), [0] + numbers, words.calls())


class RoomTest(unittest.TestCase):
    def test_no_plants(self):
        self.assertEqual(ask([OPEN, 10], [FEEDER, 1, 6], [FEEDER, 2, 8], [ROOM, 1], [ROOM, 2], [ROOM, 3])[3:],
                         [[0, 10], [0, 6], [0, 6]])

    def test_what_others_leave(self):
        rooms = [[ROOM, 1], [ROOM, 2], [ROOM, 3]]
        self.assertEqual(ask(*TWO_ARMS, *rooms, [CAP, 1, 20], *rooms)[6:],
                         [[0, 0], [0, 0], [0, 0], [0], [0, 9], [0, 0], [0, 2]])

    def test_no_more_than_feeder_1_carries(self):
        self.assertEqual(last([OPEN, MOST], [ROOM, 1]), [0, MOST])
        self.assertEqual(ask(*chain(12), [ROOM, 12], [PLANT, 6, 1], [ROOM, 12], [ROOM, 1])[12:],
                         [[0, MOST], [0, 1], [0, MOST - 1], [0, MOST - 1]])

    def test_at_each_feeder_with_0_to_12_plants_there(self):
        draw = Draw(25)
        for count in range(13):
            for at in range(1, 13):
                words = draw.tree(12, count, 40, 4)
                words.plants = [(at, want) for feeder, want in words.plants]
                self.assertEqual(last(*words.calls(), [ROOM, at]), [0, words.room(at)], words.calls())

    def test_with_12_plants(self):
        plants = [[PLANT, 12, 2]] * 12
        calls = chain(12) + plants + [[CAP, 11, 30], [CAP, 12, 25], [PLANT, 12, 1]]
        found = ask(*calls, [ROOM, 12], [ROOM, 11], [ROOM, 1], [PLANT, 12, 1], [TOTAL])[26:]
        self.assertEqual(found, [[-4], [0, 1], [0, 6], [0, MOST - 24], [-4], [0, 24]])

    def test_with_12_plants_that_take_all_or_nothing(self):
        everywhere = [[ROOM, feeder] for feeder in range(1, 13)]
        for want, room in [(MOST, 0), (0, MOST)]:
            calls = chain(12) + [[PLANT, feeder, want] for feeder in range(1, 13)]
            self.assertEqual(ask(*calls, *everywhere)[24:], [[0, room]] * 12)

    def test_capacity_0(self):
        calls = chain(4) + [[CAP, 3, 0]]
        self.assertEqual(ask(*calls, *[[ROOM, feeder] for feeder in range(1, 5)])[5:], [[0, MOST]] * 2 + [[0, 0]] * 2)

    def test_changes_nothing(self):
        looks = [[BOOK], [BY_AGE], [EVEN], [TOTAL]]
        found = ask(*TWO_ARMS, *looks, [ROOM, 2], [ROOM, 1], [ROOM, 3], *looks, [PLANT, 1, 1], [ROOM, 1])[6:]
        self.assertEqual(found[:4], found[7:11])
        self.assertEqual(found[11:], [[0, 4], [0, 0]])

    def test_as_the_words_tell(self):
        draw = Draw(26)
        for _ in range(60):
            words = draw.tree(1 + draw.below(12), draw.below(13), 40, 8)
            looks = [[ROOM, feeder] for feeder in words.feeders()]
            self.assertEqual(ask(*words.calls(), *looks)[-len(looks):],
                             [[0, words.room(feeder)] for feeder in words.feeders()], words.calls())


class WithoutTest(unittest.TestCase):
    def test_each_plant(self):
        self.assertEqual(ask(*TWO_ARMS, [WITHOUT, 1], [WITHOUT, 2], [WITHOUT, 3])[6:], [[0, 0], [0, 0], [0, 4]])
        self.assertEqual(ask(*TWO_ARMS, [CAP, 1, 20], [CAP, 2, 9], [WITHOUT, 1], [WITHOUT, 2], [WITHOUT, 3])[8:],
                         [[0, 4], [0, 4], [0, 5]])

    def test_all_fits(self):
        calls = [[OPEN, 9], [PLANT, 1, 4], [PLANT, 1, 0], [PLANT, 1, 5]]
        self.assertEqual(ask(*calls, [WITHOUT, 1], [WITHOUT, 2], [WITHOUT, 3])[4:], [[0, 4], [0, 0], [0, 5]])

    def test_the_plant_is_still_there(self):
        looks = [[BOOK], [BY_AGE], [EVEN], [TOTAL]]
        for number in [1, 2, 3]:
            found = ask(*TWO_ARMS, *looks, [WITHOUT, number], *looks, [WITHOUT, number], [LEAVE, number])[6:]
            self.assertEqual(found[:4], found[5:9])
            self.assertEqual(found[4], found[9])
            self.assertEqual(found[10], [0])

    def test_no_such_plant(self):
        calls = TWO_ARMS + [[LEAVE, 2]]
        self.assertEqual(ask(*calls, [WITHOUT, 2], [WITHOUT, 0], [WITHOUT, 4], [WITHOUT, -1], [WITHOUT, 3])[7:],
                         [[-5], [-5], [-5], [-5], [0, 5]])
        self.assertEqual(last([OPEN, 5], [WITHOUT, 1]), [-5])

    def test_after_plants_have_left(self):
        calls = [[OPEN, 7]] + [[PLANT, 1, 3]] * 4 + [[LEAVE, 1], [LEAVE, 3], [PLANT, 1, 4]]
        self.assertEqual(ask(*calls, *[[WITHOUT, number] for number in range(1, 6)])[8:],
                         [[-5], [0, 0], [-5], [0, 0], [0, 1]])

    def test_great_amounts(self):
        calls = [[OPEN, MOST], [PLANT, 1, MOST], [PLANT, 1, MOST - 1], [WITHOUT, 1], [WITHOUT, 2]]
        self.assertEqual(ask(*calls)[3:], [[0, 1], [0, 0]])
        self.assertEqual(last([OPEN, MOST], [PLANT, 1, MOST], [WITHOUT, 1]), [0, MOST])

    def test_as_the_words_tell(self):
        draw = Draw(27)
        for _ in range(60):
            words = draw.tree(1 + draw.below(12), 1 + draw.below(12), 40, 12)
            looks = [[WITHOUT, place + 1] for place in range(len(words.plants))]
            self.assertEqual(ask(*words.calls(), *looks)[-len(looks):],
                             [[0, words.without(place)] for place in range(len(words.plants))], words.calls())


if __name__ == "__main__":
    unittest.main()
