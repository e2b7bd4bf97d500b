"""Drawn sequences of calls, held against a plain telling of the document's words."""

import unittest

from tests.helper import (BOOK, BY, BY_AGE, CAP, CHECK, CUT, DOWN, EVEN, FAR, FEEDER, FLOWS, LEAVE, MOST, OPEN, PLANT,
                          ROOM, TOTAL, WANT, WITHOUT, WORTH, Draw, Words, ask)

CHANGES = [OPEN, FEEDER, FEEDER, FEEDER, CAP, CAP, PLANT, PLANT, PLANT, PLANT, WANT, LEAVE]
LOOKS = [BY_AGE, BY, BY, EVEN, EVEN, TOTAL, FLOWS, FLOWS, ROOM, CUT, CUT, CHECK, CHECK, DOWN, DOWN, WORTH, WITHOUT,
         BOOK]


class Teller:
    """Answers one call after another; shares are found by trying out."""

    def __init__(self):
        self.feeders = None
        self.plants = []
        self.last = 0

    def answer(self, call):
        if self.is_wrong(call):
            return [-1]
        if self.feeders is None and call[0] != OPEN:
            return [-2]
        if call[0] in (BY, CHECK, WORTH):
            return self.look_by_row(call[0], call[2:])
        if call[0] in LOOKS:
            return self.look(*call)
        return self.change(call[0], *call[1:])

    def is_wrong(self, call):
        number = call[0]
        if number == BY:
            return call[1] > 12
        if number == CHECK:
            return call[1] > 12 or any(not 0 <= amount <= MOST for amount in call[2:])
        if number == WORTH:
            return call[1] > 12 or any(not 1 <= feeder <= 12 for feeder in call[2:])
        if number in (FLOWS, DOWN):
            return call[1] not in (0, 1)
        if number in (FEEDER, CAP, PLANT, ROOM) and not 1 <= call[1] <= 12:
            return True
        return number <= WANT and not 0 <= call[-1] <= MOST

    def change(self, number, first, amount=None):
        if number == OPEN:
            self.feeders, self.plants, self.last = [(1, first)], [], 0
            return [0]
        if number in (FEEDER, CAP, PLANT) and first > len(self.feeders):
            return [-3]
        if number == FEEDER and len(self.feeders) == 12 or number == PLANT and len(self.plants) == 12:
            return [-4]
        if number in (WANT, LEAVE) and first not in [plant[0] for plant in self.plants]:
            return [-5]
        return self.change_feeders_or_plants(number, first, amount)

    def change_feeders_or_plants(self, number, first, amount):
        if number == FEEDER:
            self.feeders.append((first, amount))
            return [0, len(self.feeders)]
        if number == CAP:
            self.feeders[first - 1] = (self.feeders[first - 1][0], amount)
        if number == PLANT:
            self.last += 1
            self.plants.append((self.last, first, amount))
            return [0, self.last]
        if number == WANT:
            self.plants = [(n, at, amount if n == first else want) for n, at, want in self.plants]
        if number == LEAVE:
            self.plants = [plant for plant in self.plants if plant[0] != first]
        return [0]

    def words(self):
        return Words([capacity for upper, capacity in self.feeders], [upper for upper, capacity in self.feeders],
                     [(at, want) for number, at, want in self.plants])

    def numbers(self):
        return [number for number, at, want in self.plants]

    def look_by_row(self, number, row):
        words, numbers = self.words(), self.numbers()
        if number == WORTH:
            return [-3] if any(feeder > len(self.feeders) for feeder in row) else [0, words.worth(row)]
        if len(row) != len(numbers):
            return [-6]
        if number == CHECK:
            return [0, 1, words.total() - sum(row)] if words.fit(row) else [0, 0]
        if any(row.count(plant) != 1 for plant in numbers):
            return [-6]
        return [0] + words.by_order([numbers.index(plant) for plant in row])

    def look(self, number, first=None):
        words, numbers = self.words(), self.numbers()
        if number == ROOM:
            return [-3] if first > len(self.feeders) else [0, words.room(first)]
        if number == WITHOUT:
            return [0, words.without(numbers.index(first))] if first in numbers else [-5]
        if number in (BY_AGE, EVEN):
            return [0] + words.by_rule(number == EVEN)
        if number == FLOWS:
            return [0] + words.flows(words.by_rule(first))
        if number == DOWN:
            return [0] + [plant[0] for plant, share in zip(self.plants, words.by_rule(first)) if share < plant[2]]
        if number == BOOK:
            return [0, len(self.feeders)] + [part for row in self.feeders + self.plants for part in row]
        return [0, words.total()] if number == TOTAL else [0] + words.cut()


class Drawer:
    """Draws calls that are mostly accepted, and some that are refused."""

    def __init__(self, seed, most_plants):
        self.draw = Draw(seed)
        self.most_plants = most_plants

    def amount(self, limit):
        if self.draw.below(15) == 0:
            return [-1, MOST + 1, FAR, -FAR][self.draw.below(4)]
        return self.draw.below(limit)

    def feeder(self, teller):
        if self.draw.below(12) == 0:
            return [0, 12, 13, FAR, -FAR][self.draw.below(5)]
        return 1 + self.draw.below(len(teller.feeders or [1]))

    def plant(self, teller):
        if not teller.plants or self.draw.below(8) == 0:
            return [0, 1, -1, FAR, -FAR, teller.last, teller.last + 1][self.draw.below(7)]
        return teller.plants[self.draw.below(len(teller.plants))][0]

    def row(self, teller):
        row = self.draw.shuffled([plant[0] for plant in teller.plants])
        if self.draw.below(4) == 0:
            row += [[self.plant(teller)], [1] * 13, [FAR]][self.draw.below(3)]
        elif row and self.draw.below(4) == 0:
            row[0] = self.plant(teller)
        return [len(row)] + row

    def shares(self, teller):
        row = [self.draw.below(want + 1) if self.draw.below(12) else self.amount(5) for _, _, want in teller.plants]
        if self.draw.below(8) == 0:
            row += [[self.amount(5)], [0] * 13][self.draw.below(2)]
        return [len(row)] + row

    def cut(self, teller):
        count = self.draw.below(6) if self.draw.below(8) else self.draw.below(21)
        return [count] + [self.feeder(teller) for _ in range(count)]

    def rule(self):
        return self.draw.below(2) if self.draw.below(8) else [-1, 2, FAR, -FAR][self.draw.below(4)]

    def call(self, teller):
        if self.draw.below(2):
            return self.look(teller, LOOKS[self.draw.below(len(LOOKS))])
        number = CHANGES[self.draw.below(len(CHANGES))]
        if number == OPEN:
            return [OPEN, self.amount(20)] if teller.feeders is None or self.draw.below(6) == 0 else [EVEN]
        if number == PLANT and len(teller.plants) >= self.most_plants:
            return [BY] + self.row(teller)
        if number in (FEEDER, CAP, PLANT):
            return [number, self.feeder(teller), self.amount(9 if number != PLANT else 5)]
        if number == WANT:
            return [WANT, self.plant(teller), self.amount(5)]
        return [LEAVE, self.plant(teller)]

    def look(self, teller, number):
        if number in (FLOWS, DOWN):
            return [number, self.rule()]
        if number == ROOM:
            return [ROOM, self.feeder(teller)]
        if number == WITHOUT:
            return [WITHOUT, self.plant(teller)]
        if number in (BY, CHECK, WORTH):
            return [number] + {BY: self.row, CHECK: self.shares, WORTH: self.cut}[number](teller)
        return [number]


class SequencesTest(unittest.TestCase):
    def check(self, seed, count, most_plants):
        drawer, teller, calls, wished = Drawer(seed, most_plants), Teller(), [], []
        for _ in range(count):
            calls.append(drawer.call(teller))
            wished.append(teller.answer(calls[-1]))
        for place, (found, wish) in enumerate(zip(ask(*calls), wished)):
            self.assertEqual(found, wish, calls[:place + 1])
        return [(call[0], answer[0]) for call, answer in zip(calls, wished)]

    def test_long_ones(self):
        met = {found for seed in range(30) for found in self.check(seed, 200, 4)}
        self.assertEqual({number for number, first in met if first == 0}, set(range(18)))
        self.assertIn(-2, {first for number, first in met})
        refused = {-1: {OPEN, FEEDER, CAP, PLANT, WANT, BY, FLOWS, ROOM, CHECK, DOWN, WORTH},
                   -3: {FEEDER, CAP, PLANT, ROOM, WORTH}, -4: {FEEDER}, -5: {WANT, LEAVE, WITHOUT}, -6: {BY, CHECK}}
        for refusal, numbers in refused.items():
            self.assertEqual({number for number, first in met if first == refusal}, numbers, refusal)

    def test_short_ones(self):
        for seed in range(100, 160):
            self.check(seed, 25, 4)


if __name__ == "__main__":
    unittest.main()
