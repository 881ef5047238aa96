"""The holes that may lie on one way, and the roped parties that cross it."""

from ropedparty.hidden import cells_number


def bit_counts(size):
    """For each number of so many bits, how many of them are set."""
    counts = [0]
    for number in range(1, 1 << size):
        counts.append(counts[number >> 1] + (number & 1))
    return counts


def hole_places(number, way):
    """Which cells of the way, by their places on it, are holes: a bit for each place."""
    places = 0
    for place, cell in enumerate(way):
        places = places | (((number >> cell) & 1) << place)
    return places


def first_fields(possible, way):
    """For each set of places that may be holes together, the first hidden field with it, in rising order."""
    cells = cells_number(way)
    # Most hidden fields are alike on the way: only one of each sort is looked at closely.
    firsts = {}
    for number in possible:
        firsts.setdefault(number & cells, number)
    by_places = {}
    for number in firsts.values():
        by_places[hole_places(number, way)] = number
    return by_places


def clear_fields(possible, way):
    """Those of the hidden fields in which the way is clear."""
    cells = cells_number(way)
    return [number for number in possible if number & cells == 0]


class Crossing:
    """One way, with all the sets of its places that may be holes together."""

    def __init__(self, possible, way):
        self.way_length = len(way)
        self.firsts = first_fields(possible, way)
        self.set_bits = bit_counts(len(way))

    def most_holes(self):
        """The greatest number of the way's places that are holes together."""
        return max([self.set_bits[places] for places in self.firsts])

    def standing(self, members, spacing, moment):
        """The places of the way on which members stand then: a bit for each place."""
        places = 0
        for member in range(members):
            place = moment - member * spacing
            if 0 <= place < self.way_length:
                places = places | (1 << place)
        return places

    def first_fall(self, members, spacing, hold):
        """The time of the first fall that's too much, how many fall and the hidden field, or None if it's safe."""
        # From then on all of them stand behind the way.
        end = self.way_length + (members - 1) * spacing
        for moment in range(end):
            stood_on = self.standing(members, spacing, moment)
            for places, number in self.firsts.items():
                fallen = self.set_bits[places & stood_on]
                if fallen * (hold + 1) > members:
                    return (moment, fallen, number)
        return None

    def is_safe(self, members, spacing, hold):
        return self.first_fall(members, spacing, hold) is None
