"""The feeders and plants that one object keeps."""


class Plant:
    def __init__(self, number, feeder, want):
        self.number = number
        self.feeder = feeder
        self.want = want


class Grid:
    """Feeders by their numbers, and plants in order of entry; without a feeder nothing has begun."""

    def __init__(self):
        self.capacities = {}
        self.hangs_on = {}
        self.plants = []
        self.last_number = 0

    def begin(self, capacity):
        self.capacities = {1: capacity}
        self.hangs_on = {1: 1}
        self.plants = []
        self.last_number = 0

    def has_begun(self):
        return len(self.capacities) > 0

    def has_feeder(self, feeder):
        return feeder in self.capacities

    def add_feeder(self, upper, capacity):
        feeder = len(self.capacities) + 1
        self.capacities[feeder] = capacity
        self.hangs_on[feeder] = upper
        return feeder

    def set_capacity(self, feeder, capacity):
        self.capacities[feeder] = capacity

    def feeder_numbers(self):
        return list(range(1, len(self.capacities) + 1))

    def feeders_below_first(self):
        """All feeders but the first, each ahead of the one it hangs on, whose number is smaller."""
        return list(range(len(self.capacities), 1, -1))

    def path_to_first(self, feeder):
        """The feeders that all that's given at this feeder goes through, itself first."""
        path = [feeder]
        while path[-1] != 1:
            path.append(self.hangs_on[path[-1]])
        return path

    def add_plant(self, feeder, want):
        self.last_number += 1
        self.plants.append(Plant(self.last_number, feeder, want))
        return self.last_number

    def find_plant(self, number):
        """The plant with this number, or None."""
        for plant in self.plants:
            if plant.number == number:
                return plant
        return None

    def plant_numbers(self):
        return [plant.number for plant in self.plants]

    def plants_but(self, number):
        return [plant for plant in self.plants if plant.number != number]

    def drop_plant(self, number):
        self.plants = self.plants_but(number)

    def with_plants(self, plants):
        """Another grid with these feeders and the plants handed in, to see what would be."""
        other = Grid()
        other.capacities = dict(self.capacities)
        other.hangs_on = dict(self.hangs_on)
        other.plants = list(plants)
        other.last_number = self.last_number
        return other
