"""Which feeders prove that no more can come through, and what a row of feeders is worth as a cut."""


def wishes_of(grid):
    """Each feeder's wish, by the feeders' numbers."""
    wishes = {}
    for feeder in grid.feeder_numbers():
        wishes[feeder] = 0
    for plant in grid.plants:
        wishes[plant.feeder] += plant.want
    for feeder in grid.feeders_below_first():
        wishes[grid.hangs_on[feeder]] += min(grid.capacities[feeder], wishes[feeder])
    return wishes


def cut_of(grid):
    """The feeders of the cut, the least number first."""
    wishes = wishes_of(grid)
    cut = []
    for feeder in grid.feeder_numbers():
        stopping = [upper for upper in grid.path_to_first(feeder) if grid.capacities[upper] < wishes[upper]]
        if stopping == [feeder]:
            cut.append(feeder)
    return cut


def worth_of(grid, feeders):
    """What these feeders are worth as a cut; of one that's named twice the capacity counts twice."""
    worth = sum([grid.capacities[feeder] for feeder in feeders])
    for plant in grid.plants:
        path = grid.path_to_first(plant.feeder)
        if not any([feeder in path for feeder in feeders]):
            worth += plant.want
    return worth
