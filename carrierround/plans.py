"""The plan of a connected round: odd corners, their pairing, and the streets that are added."""

from carrierround.ways import distances, is_at, way


class Plan:
    """The pairs of odd corners, the streets added for them, and the lengths."""

    def __init__(self, pairs, added, must):
        self.pairs = pairs
        self.added = added
        self.must = must
        self.added_length = sum([street.length for street in added])


def odd_corners(book):
    """The corners at which the streets' needs add up to an odd number, the least first."""
    odd = []
    for corner in range(1, book.n + 1):
        needs = sum([street.needs for street in book.streets if is_at(street, corner)])
        if needs % 2 == 1:
            odd.append(corner)
    return odd


def without_pair(left, place):
    """The corners left when the first one and the one at the place are paired."""
    return left[1:place] + left[place + 1:]


def sum_with(left, place, table, known):
    """The least sum of distances if the first corner left goes with the one at the place."""
    return table[left[0]][left[place]] + least_sum(without_pair(left, place), table, known)


def least_sum(left, table, known):
    """The least sum of distances of all pairings of the corners left."""
    # The same corners are left after many beginnings: known keeps their sums.
    if left not in known:
        known[left] = min([sum_with(left, place, table, known) for place in range(1, len(left))])
    return known[left]


def least_partner(left, table, known):
    """The first place whose corner goes with the first corner left in a least pairing."""
    least = least_sum(left, table, known)
    place = 1
    while sum_with(left, place, table, known) != least:
        place = place + 1
    return place


def pairing(corners, table):
    """All these corners in pairs with the least sum of distances; of several the pairing told first."""
    known = {(): 0}
    pairs = []
    left = tuple(corners)
    while len(left) > 0:
        place = least_partner(left, table, known)
        pairs.append((left[0], left[place]))
        left = without_pair(left, place)
    return pairs


def make_plan(book):
    """The plan of a round that is connected."""
    table = distances(book.n, book.streets)
    pairs = pairing(odd_corners(book), table)
    added = []
    for pair in pairs:
        added.extend(way(book.streets, table, pair[0], pair[1]))
    must = sum([street.length * street.needs for street in book.streets])
    return Plan(pairs, added, must)


def how_often(book, plan):
    """How often each street is walked, by the street's number."""
    times = {}
    for street in book.streets:
        times[street.number] = street.needs
    for street in plan.added:
        times[street.number] = times[street.number] + 1
    return times
