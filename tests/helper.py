"""What the tests share: calls by name, and the document's words tried out the slow way."""

from itertools import product

from plantsdown.feeders import answers

(OPEN, FEEDER, CAP, PLANT, WANT, LEAVE, BY_AGE, BY, EVEN,
 TOTAL, FLOWS, ROOM, CUT, CHECK, DOWN, WORTH, WITHOUT, BOOK) = range(18)
MOST = 1000000000
FAR = 1000000000000000000
ROOM_WANT = 13000000000
BELOW_OR_ABOVE = [-1, MOST + 1, -MOST, FAR, -FAR, FAR - 1, 1 - FAR]
NO_FEEDER_EVER = [0, 13, -1, FAR, -FAR, FAR - 1, 1 - FAR]
NO_RULE = [-1, 2, FAR, -FAR]


def by(*order):
    return [BY, len(order), *order]


def check(*shares):
    return [CHECK, len(shares), *shares]


def worth(*feeders):
    return [WORTH, len(feeders), *feeders]


def join(calls):
    return [number for call in calls for number in call]


def split(told):
    found = []
    while told:
        count = told[0]
        if count < 1 or len(told) < count + 1:
            raise AssertionError(f"no such count of numbers: {told}")
        found.append(told[1:count + 1])
        told = told[count + 1:]
    return found


def ask(*calls):
    """Each call's answer, when the calls stand in one list."""
    found = split(answers(join(calls)))
    if len(found) != len(calls):
        raise AssertionError(f"{len(found)} answers to {len(calls)} calls")
    return found


def last(*calls):
    return ask(*calls)[-1]


def ask_behind(calls, looks):
    """Each look's answer behind the calls, in as many lists of at most 200 calls as it takes."""
    step = 200 - len(calls)
    found = []
    for start in range(0, len(looks), step):
        found += ask(*calls, *looks[start:start + step])[len(calls):]
    return found


def accepted(case, *calls):
    """The last call's answer, where no call may be refused."""
    found = ask(*calls)
    for call, answer in zip(calls, found):
        case.assertEqual(answer[0], 0, call)
    return found[-1]


def chain(count, capacity=MOST):
    """Calls that open and make so many feeders, each hanging on the one before it."""
    return [[OPEN, capacity]] + [[FEEDER, upper, capacity] for upper in range(1, count)]


class Words:
    """A tree and its plants as the document's words tell them, answered by trying out."""

    def __init__(self, capacities, uppers, plants):
        self.capacities = list(capacities)
        self.uppers = list(uppers)
        self.plants = [tuple(plant) for plant in plants]

    def calls(self):
        first = [[OPEN, self.capacities[0]]]
        others = [[FEEDER, upper, capacity] for upper, capacity in zip(self.uppers[1:], self.capacities[1:])]
        return first + others + [[PLANT, feeder, want] for feeder, want in self.plants]

    def is_below(self, at, feeder):
        while at > feeder:
            at = self.uppers[at - 1]
        return at == feeder

    def feeders(self):
        return range(1, len(self.capacities) + 1)

    def flows(self, shares):
        return [sum(share for (at, want), share in zip(self.plants, shares) if self.is_below(at, feeder))
                for feeder in self.feeders()]

    def fit(self, shares):
        for (feeder, want), share in zip(self.plants, shares):
            if not 0 <= share <= want:
                return False
        return all(through <= capacity for through, capacity in zip(self.flows(shares), self.capacities))

    def by_order(self, places):
        shares = [0] * len(self.plants)
        for place in places:
            # More than feeder 1 carries never fits, so it needn't be tried.
            for share in range(min(self.plants[place][1], self.capacities[0]), -1, -1):
                shares[place] = share
                if self.fit(shares):
                    break
        return shares

    def all_that_fit(self):
        every = product(*[range(want + 1) for feeder, want in self.plants])
        return [list(shares) for shares in every if self.fit(shares)]

    def even(self):
        return max(self.all_that_fit(), key=lambda shares: (sorted(shares), shares))

    def by_rule(self, rule):
        return self.even() if rule else self.by_order(range(len(self.plants)))

    def total(self):
        return sum(self.by_rule(0))

    def room(self, feeder):
        return Words(self.capacities, self.uppers, self.plants + [(feeder, ROOM_WANT)]).total() - self.total()

    def without(self, place):
        others = self.plants[:place] + self.plants[place + 1:]
        return self.total() - Words(self.capacities, self.uppers, others).total()

    def wish(self, feeder):
        hanging = [lower for lower in self.feeders() if lower > 1 and self.uppers[lower - 1] == feeder]
        return (sum(want for at, want in self.plants if at == feeder)
                + sum(min(self.capacities[lower - 1], self.wish(lower)) for lower in hanging))

    def stops(self, feeder):
        return self.capacities[feeder - 1] < self.wish(feeder)

    def cut(self):
        return [feeder for feeder in self.feeders() if self.stops(feeder)
                and not any(self.stops(upper) for upper in self.feeders() if upper != feeder
                            and self.is_below(feeder, upper))]

    def worth(self, row):
        return (sum(self.capacities[feeder - 1] for feeder in row)
                + sum(want for at, want in self.plants if not any(self.is_below(at, feeder) for feeder in row)))


class Draw:
    """Numbers that look mixed but are the same each time."""

    def __init__(self, seed):
        self.state = seed

    def below(self, limit):
        self.state = (self.state * 6364136223846793005 + 1442695040888963407) % 2 ** 64
        return (self.state >> 33) % limit

    def shuffled(self, things):
        left = list(things)
        return [left.pop(self.below(len(left))) for _ in things]

    def tree(self, feeders, plants, capacity, want):
        """Words of a drawn tree, with capacities and wants of at most so much."""
        capacities = [self.below(capacity + 1) for _ in range(feeders)]
        uppers = [1] + [1 + self.below(feeder) for feeder in range(1, feeders)]
        return Words(capacities, uppers, [(1 + self.below(feeders), self.below(want + 1)) for _ in range(plants)])
