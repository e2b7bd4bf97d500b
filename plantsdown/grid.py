"""The feeders and plants that one object keeps."""


class Plant:
    def __init__(self, number, feeder, want):
        self.number = number
        self.feeder = feeder
        self.want = want


class Grid:
    """Feeders by their numbers, and plants in order of entry; without a feeder nothing has begun."""

    def __init__(self):
        self.capacities = {}
        self.hangs_on = {}
        self.plants = []
        self.last_number = 0

    def begin(self, capacity):
        self.capacities = {1: capacity}
        self.hangs_on = {1: 1}
        self.plants = []
        self.last_number = 0

    def has_begun(self):
        return len(self.capacities) > 0

    def has_feeder(self, feeder):
        return feeder in self.capacities

    def add_feeder(self, upper, capacity):
        feeder = len(self.capacities) + 1
        self.capacities[feeder] = capacity
        self.hangs_on[feeder] = upper
        return feeder

    def set_capacity(self, feeder, capacity):
        self.capacities[feeder] = capacity

    def path_to_first(self, feeder):
        """The feeders that all that's given at this feeder goes through, itself first."""
        path = [feeder]
        while path[-1] != 1:
            path.append(self.hangs_on[path[-1]])
        return path

    def add_plant(self, feeder, want):
        self.last_number += 1
        self.plants.append(Plant(self.last_number, feeder, want))
        return self.last_number

    def find_plant(self, number):
        """The plant with this number, or None."""
        for plant in self.plants:
            if plant.number == number:
                return plant
        return None

    def plant_numbers(self):
        return [plant.number for plant in self.plants]

    def drop_plant(self, number):
        self.plants = [plant for plant in self.plants if plant.number != number]
