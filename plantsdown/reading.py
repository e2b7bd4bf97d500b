"""How calls stand in one list of whole numbers, and in which ranges their numbers may be."""

RANGES = {
    "any": (-1000000000000000000, 1000000000000000000),
    "amount": (0, 1000000000),
    "feeder": (1, 12),
    "rule": (0, 1),
}

MOST_IN_ROW = 12

NUMBER_KINDS = {
    0: ("amount",),
    1: ("feeder", "amount"),
    2: ("feeder", "amount"),
    3: ("feeder", "amount"),
    4: ("any", "amount"),
    5: ("any",),
    6: (),
    7: (),
    8: (),
    9: (),
    10: ("rule",),
    11: ("feeder",),
    12: (),
    13: (),
    14: ("rule",),
    15: (),
    16: ("any",),
    17: (),
}

ROW_KINDS = {7: "any", 13: "amount", 15: "feeder"}


class Call:
    """One call: its number, its whole numbers, and its row (empty if it has none)."""

    def __init__(self, number, numbers, row):
        self.number = number
        self.numbers = numbers
        self.row = row


def split_calls(calls):
    """The calls that stand one behind another in the list."""
    found = []
    place = 0
    while place < len(calls):
        number = calls[place]
        row_place = place + 1 + len(NUMBER_KINDS.get(number, ()))
        numbers = calls[place + 1:row_place]
        place = row_place
        row = []
        if number in ROW_KINDS:
            place = row_place + 1 + calls[row_place]
            row = calls[row_place + 1:place]
        found.append(Call(number, numbers, row))
    return found


def is_of_kind(number, kind):
    least_and_most = RANGES[kind]
    return least_and_most[0] <= number <= least_and_most[1]


def is_in_ranges(call):
    """Whether each number of the call, and how many its row has, is in the range told."""
    if len(call.row) > MOST_IN_ROW:
        return False
    for kind, number in zip(NUMBER_KINDS[call.number], call.numbers, strict=True):
        if not is_of_kind(number, kind):
            return False
    return all([is_of_kind(number, ROW_KINDS[call.number]) for number in call.row])
