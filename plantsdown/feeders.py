"""The calls on one object, and what they answer."""

from plantsdown.grid import Grid
from plantsdown.reading import is_in_ranges, split_calls
from plantsdown.shares import even_shares, shares_by_order

ACCEPTED = 0
WRONG_CALL = -1
NOT_BEGUN = -2
NO_FEEDER = -3
NO_PLACE = -4
NO_PLANT = -5
WRONG_ROW = -6

BEGIN = 0
MOST_FEEDERS = 12
MOST_PLANTS = 12


def answer_begin(grid, call):
    grid.begin(call.numbers[0])
    return [ACCEPTED]


def answer_feeder(grid, call):
    if not grid.has_feeder(call.numbers[0]):
        return [NO_FEEDER]
    if len(grid.capacities) >= MOST_FEEDERS:
        return [NO_PLACE]
    return [ACCEPTED, grid.add_feeder(call.numbers[0], call.numbers[1])]


def answer_cap(grid, call):
    if not grid.has_feeder(call.numbers[0]):
        return [NO_FEEDER]
    grid.set_capacity(call.numbers[0], call.numbers[1])
    return [ACCEPTED]


def answer_plant(grid, call):
    if not grid.has_feeder(call.numbers[0]):
        return [NO_FEEDER]
    if len(grid.plants) >= MOST_PLANTS:
        return [NO_PLACE]
    return [ACCEPTED, grid.add_plant(call.numbers[0], call.numbers[1])]


def answer_want(grid, call):
    plant = grid.find_plant(call.numbers[0])
    if plant is None:
        return [NO_PLANT]
    plant.want = call.numbers[1]
    return [ACCEPTED]


def answer_leave(grid, call):
    if grid.find_plant(call.numbers[0]) is None:
        return [NO_PLANT]
    grid.drop_plant(call.numbers[0])
    return [ACCEPTED]


def answer_by_age(grid, call):
    return [ACCEPTED] + shares_by_order(grid, grid.plant_numbers())


def answer_by(grid, call):
    if sorted(call.row) != sorted(grid.plant_numbers()):
        return [WRONG_ROW]
    return [ACCEPTED] + shares_by_order(grid, call.row)


def answer_even(grid, call):
    return [ACCEPTED] + even_shares(grid)


ANSWER_OF = {
    0: answer_begin,
    1: answer_feeder,
    2: answer_cap,
    3: answer_plant,
    4: answer_want,
    5: answer_leave,
    6: answer_by_age,
    7: answer_by,
    8: answer_even,
}


def answer_call(grid, call):
    if call.number not in ANSWER_OF or not is_in_ranges(call):
        return [WRONG_CALL]
    if call.number != BEGIN and not grid.has_begun():
        return [NOT_BEGUN]
    answer = ANSWER_OF[call.number]
    return answer(grid, call)


def answers(calls):
    """For each call on a new object, in order: how many numbers are answered, then these."""
    grid = Grid()
    told = []
    for call in split_calls(calls):
        answer = answer_call(grid, call)
        told.append(len(answer))
        told.extend(answer)
    return told
