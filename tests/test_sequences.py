"""Drawn sequences of calls, held against a plain telling of the document's words."""

import unittest

from tests.helper import BY, BY_AGE, CAP, EVEN, FAR, FEEDER, LEAVE, MOST, OPEN, PLANT, WANT, Draw, Words, ask


class Teller:
    """Answers one call after another; shares are found by trying out."""

    def __init__(self):
        self.feeders = None
        self.plants = []
        self.last = 0

    def answer(self, call):
        if self.is_wrong(call):
            return [-1]
        if self.feeders is None and call[0] != OPEN:
            return [-2]
        if call[0] in (BY_AGE, BY, EVEN):
            return self.shares(call)
        return self.change(call[0], *call[1:])

    def is_wrong(self, call):
        if call[0] == BY:
            return call[1] > 12
        if call[0] in (FEEDER, CAP, PLANT) and not 1 <= call[1] <= 12:
            return True
        return call[0] <= WANT and not 0 <= call[-1] <= MOST

    def change(self, number, first, amount=None):
        if number == OPEN:
            self.feeders, self.plants, self.last = [(1, first)], [], 0
            return [0]
        if number in (FEEDER, CAP, PLANT) and first > len(self.feeders):
            return [-3]
        if number == FEEDER and len(self.feeders) == 12 or number == PLANT and len(self.plants) == 12:
            return [-4]
        if number in (WANT, LEAVE) and first not in [plant[0] for plant in self.plants]:
            return [-5]
        return self.change_feeders_or_plants(number, first, amount)

    def change_feeders_or_plants(self, number, first, amount):
        if number == FEEDER:
            self.feeders.append((first, amount))
            return [0, len(self.feeders)]
        if number == CAP:
            self.feeders[first - 1] = (self.feeders[first - 1][0], amount)
        if number == PLANT:
            self.last += 1
            self.plants.append((self.last, first, amount))
            return [0, self.last]
        if number == WANT:
            self.plants = [(n, at, amount if n == first else want) for n, at, want in self.plants]
        if number == LEAVE:
            self.plants = [plant for plant in self.plants if plant[0] != first]
        return [0]

    def shares(self, call):
        words = Words([capacity for upper, capacity in self.feeders], [upper for upper, capacity in self.feeders],
                      [(at, want) for number, at, want in self.plants])
        numbers = [number for number, at, want in self.plants]
        if call[0] == EVEN:
            return [0] + words.even()
        if call[0] == BY_AGE:
            return [0] + words.by_order(range(len(numbers)))
        if len(call[2:]) != len(numbers) or any(call[2:].count(number) != 1 for number in numbers):
            return [-6]
        return [0] + words.by_order([numbers.index(number) for number in call[2:]])


class Drawer:
    """Draws calls that are mostly accepted, and some that are refused."""

    def __init__(self, seed, most_plants):
        self.draw = Draw(seed)
        self.most_plants = most_plants

    def amount(self, limit):
        if self.draw.below(15) == 0:
            return [-1, MOST + 1, FAR, -FAR][self.draw.below(4)]
        return self.draw.below(limit)

    def feeder(self, teller):
        if self.draw.below(12) == 0:
            return [0, 12, 13, FAR, -FAR][self.draw.below(5)]
        return 1 + self.draw.below(len(teller.feeders or [1]))

    def plant(self, teller):
        if not teller.plants or self.draw.below(8) == 0:
            return [0, 1, -1, FAR, -FAR, teller.last, teller.last + 1][self.draw.below(7)]
        return teller.plants[self.draw.below(len(teller.plants))][0]

    def row(self, teller):
        row = self.draw.shuffled([plant[0] for plant in teller.plants])
        if self.draw.below(4) == 0:
            row += [[self.plant(teller)], [1] * 13, [FAR]][self.draw.below(3)]
        elif row and self.draw.below(4) == 0:
            row[0] = self.plant(teller)
        return [len(row)] + row

    def call(self, teller):
        number = [OPEN, FEEDER, FEEDER, CAP, CAP, PLANT, PLANT, PLANT, WANT, LEAVE, BY_AGE, BY, BY, EVEN, EVEN][
            self.draw.below(15)]
        if number == OPEN:
            return [OPEN, self.amount(12)] if teller.feeders is None or self.draw.below(6) == 0 else [EVEN]
        if number == PLANT and len(teller.plants) >= self.most_plants:
            return [BY] + self.row(teller)
        if number in (FEEDER, CAP, PLANT):
            return [number, self.feeder(teller), self.amount(9 if number != PLANT else 5)]
        if number == WANT:
            return [WANT, self.plant(teller), self.amount(5)]
        if number == LEAVE:
            return [LEAVE, self.plant(teller)]
        return [BY] + self.row(teller) if number == BY else [number]


class SequencesTest(unittest.TestCase):
    def check(self, seed, count, most_plants):
        drawer, teller, calls, wished = Drawer(seed, most_plants), Teller(), [], []
        for _ in range(count):
            calls.append(drawer.call(teller))
            wished.append(teller.answer(calls[-1]))
        for place, (found, wish) in enumerate(zip(ask(*calls), wished)):
            self.assertEqual(found, wish, calls[:place + 1])
        return wished

    def test_long_ones(self):
        met = {answer[0] for seed in range(12) for answer in self.check(seed, 200, 4)}
        self.assertEqual(met, {0, -1, -2, -3, -4, -5, -6})

    def test_short_ones(self):
        for seed in range(100, 160):
            self.check(seed, 25, 4)


if __name__ == "__main__":
    unittest.main()
