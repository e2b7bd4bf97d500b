"""Who gives how much: shares by an order, shares as equal as can be, and what they add up to."""

EVENLY = 1


def shares_by_order(grid, order):
    """Each plant's share, in order of entry, if the plants are served in this order of their numbers."""
    room = dict(grid.capacities)
    shares = {}
    for number in order:
        plant = grid.find_plant(number)
        path = grid.path_to_first(plant.feeder)
        share = min([plant.want] + [room[feeder] for feeder in path])
        for feeder in path:
            room[feeder] -= share
        shares[number] = share
    return [shares[number] for number in grid.plant_numbers()]


def shares_by_age(grid):
    return shares_by_order(grid, grid.plant_numbers())


def total_of(grid):
    return sum(shares_by_age(grid))


def flows_of(grid, shares):
    """What goes through each feeder, by the feeders' numbers."""
    flows = {}
    for feeder in grid.feeder_numbers():
        flows[feeder] = 0
    for plant, share in zip(grid.plants, shares, strict=True):
        flows[plant.feeder] += share
    for feeder in grid.feeders_below_first():
        flows[grid.hangs_on[feeder]] += flows[feeder]
    return flows


def shares_fit(grid, shares):
    for plant, share in zip(grid.plants, shares, strict=True):
        if share < 0 or share > plant.want:
            return False
    flows = flows_of(grid, shares)
    return all([flows[feeder] <= grid.capacities[feeder] for feeder in grid.capacities])


def raised_to(grid, shares, rising, level):
    """The shares with those at the rising places at this level, none above what its plant wants."""
    raised = list(shares)
    for place in rising:
        raised[place] = min(level, grid.plants[place].want)
    return raised


def greatest_level(grid, shares, rising, level):
    """The greatest level at which the rising shares fit; they do at the level handed in."""
    # A level beyond what each of them wants changes nothing, so none is looked for there.
    above = max([grid.plants[place].want for place in rising]) + 1
    while above - level > 1:
        middle = (level + above) // 2
        if shares_fit(grid, raised_to(grid, shares, rising, middle)):
            level = middle
        else:
            above = middle
    return level


def even_shares(grid):
    """Each plant's share as equally as can be, in order of entry."""
    shares = [0 for plant in grid.plants]
    rising = list(range(len(shares)))
    level = 0
    while len(rising) > 0:
        level = greatest_level(grid, shares, rising, level)
        shares = raised_to(grid, shares, rising, level)
        still_rising = []
        for place in rising:
            shares[place] += 1
            if shares_fit(grid, shares):
                still_rising.append(place)
            else:
                shares[place] -= 1
        rising = still_rising
        level += 1
    return shares


def shares_by_rule(grid, rule):
    return even_shares(grid) if rule == EVENLY else shares_by_age(grid)
