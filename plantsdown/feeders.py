"""The calls on one object, and what they answer."""

from plantsdown.cuts import cut_of, worth_of
from plantsdown.grid import Grid, Plant
from plantsdown.reading import is_in_ranges, split_calls
from plantsdown.shares import even_shares, shares_by_age, shares_by_order, shares_by_rule
from plantsdown.shares import flows_of, shares_fit, total_of

ACCEPTED = 0
WRONG_CALL = -1
NOT_BEGUN = -2
NO_FEEDER = -3
NO_PLACE = -4
NO_PLANT = -5
WRONG_ROW = -6

BEGIN = 0
MOST_FEEDERS = 12
MOST_PLANTS = 12
# More than any feeder carries, so that only the feeders bound what one more plant could give.
WANT_FOR_ROOM = 13000000000


def answer_begin(grid, call):
    grid.begin(call.numbers[0])
    return [ACCEPTED]


def answer_feeder(grid, call):
    if not grid.has_feeder(call.numbers[0]):
        return [NO_FEEDER]
    if len(grid.capacities) >= MOST_FEEDERS:
        return [NO_PLACE]
    return [ACCEPTED, grid.add_feeder(call.numbers[0], call.numbers[1])]


def answer_cap(grid, call):
    if not grid.has_feeder(call.numbers[0]):
        return [NO_FEEDER]
    grid.set_capacity(call.numbers[0], call.numbers[1])
    return [ACCEPTED]


def answer_plant(grid, call):
    if not grid.has_feeder(call.numbers[0]):
        return [NO_FEEDER]
    if len(grid.plants) >= MOST_PLANTS:
        return [NO_PLACE]
    return [ACCEPTED, grid.add_plant(call.numbers[0], call.numbers[1])]


def answer_want(grid, call):
    plant = grid.find_plant(call.numbers[0])
    if plant is None:
        return [NO_PLANT]
    plant.want = call.numbers[1]
    return [ACCEPTED]


def answer_leave(grid, call):
    if grid.find_plant(call.numbers[0]) is None:
        return [NO_PLANT]
    grid.drop_plant(call.numbers[0])
    return [ACCEPTED]


def answer_by_age(grid, call):
    return [ACCEPTED] + shares_by_age(grid)


def answer_by(grid, call):
    if sorted(call.row) != sorted(grid.plant_numbers()):
        return [WRONG_ROW]
    return [ACCEPTED] + shares_by_order(grid, call.row)


def answer_even(grid, call):
    return [ACCEPTED] + even_shares(grid)


def answer_total(grid, call):
    return [ACCEPTED, total_of(grid)]


def answer_flows(grid, call):
    flows = flows_of(grid, shares_by_rule(grid, call.numbers[0]))
    return [ACCEPTED] + [flows[feeder] for feeder in grid.feeder_numbers()]


def answer_room(grid, call):
    feeder = call.numbers[0]
    if not grid.has_feeder(feeder):
        return [NO_FEEDER]
    one_more = Plant(grid.last_number + 1, feeder, WANT_FOR_ROOM)
    return [ACCEPTED, total_of(grid.with_plants(grid.plants + [one_more])) - total_of(grid)]


def answer_cut(grid, call):
    return [ACCEPTED] + cut_of(grid)


def answer_check(grid, call):
    if len(call.row) != len(grid.plants):
        return [WRONG_ROW]
    if not shares_fit(grid, call.row):
        return [ACCEPTED, 0]
    return [ACCEPTED, 1, total_of(grid) - sum(call.row)]


def answer_down(grid, call):
    shares = shares_by_rule(grid, call.numbers[0])
    return [ACCEPTED] + [plant.number for plant, share in zip(grid.plants, shares, strict=True) if share < plant.want]


def answer_worth(grid, call):
    if not all([grid.has_feeder(feeder) for feeder in call.row]):
        return [NO_FEEDER]
    return [ACCEPTED, worth_of(grid, call.row)]


def answer_without(grid, call):
    number = call.numbers[0]
    if grid.find_plant(number) is None:
        return [NO_PLANT]
    return [ACCEPTED, total_of(grid) - total_of(grid.with_plants(grid.plants_but(number)))]


def answer_book(grid, call):
    told = [ACCEPTED, len(grid.capacities)]
    for feeder in grid.feeder_numbers():
        told.extend([grid.hangs_on[feeder], grid.capacities[feeder]])
    for plant in grid.plants:
        told.extend([plant.number, plant.feeder, plant.want])
    return told


ANSWER_OF = {
    0: answer_begin,
    1: answer_feeder,
    2: answer_cap,
    3: answer_plant,
    4: answer_want,
    5: answer_leave,
    6: answer_by_age,
    7: answer_by,
    8: answer_even,
    9: answer_total,
    10: answer_flows,
    11: answer_room,
    12: answer_cut,
    13: answer_check,
    14: answer_down,
    15: answer_worth,
    16: answer_without,
    17: answer_book,
}


def answer_call(grid, call):
    if call.number not in ANSWER_OF or not is_in_ranges(call):
        return [WRONG_CALL]
    if call.number != BEGIN and not grid.has_begun():
        return [NOT_BEGUN]
    answer = ANSWER_OF[call.number]
    return answer(grid, call)


def answers(calls):
    """For each call on a new object, in order: how many numbers are answered, then these."""
    grid = Grid()
    told = []
    for call in split_calls(calls):
        answer = answer_call(grid, call)
        told.append(len(answer))
        told.extend(answer)
    return told
