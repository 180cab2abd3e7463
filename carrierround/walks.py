"""The walk of a connected round, what its steps serve, and the order of the points along it."""

from carrierround.plans import how_often, make_plan
from carrierround.ways import is_at, other_end, reaches_all

BOTH_SIDES = 0
FIRST_SIDE = 1
SECOND_SIDE = 2
NOTHING = 3


class Step:
    """One going along a street: from which of its corners, and what is served by it."""

    def __init__(self, street, from_second, serves):
        self.street = street
        self.from_second = from_second
        self.serves = serves


def what_is_served(street, times_before):
    """What a step along the street serves that was walked so many times before."""
    if street.wide == 0:
        return BOTH_SIDES if times_before == 0 else NOTHING
    if times_before == 0:
        return FIRST_SIDE
    return SECOND_SIDE if times_before == 1 else NOTHING


def left_after(streets, left, gone):
    """The streets still to be walked once the street gone has been walked one time more."""
    return [street for street in streets if street.number != gone.number or left[street.number] > 1]


def street_to_take(streets, left, corner):
    """The street of least number from whose other end all that is then left can be come to."""
    for street in streets:
        if is_at(street, corner):
            if reaches_all(left_after(streets, left, street), other_end(street, corner)):
                return street
    return None


def make_walk(book):
    """The steps of the walk, for a round that is connected."""
    left = how_often(book, make_plan(book))
    walked = {}
    streets = list(book.streets)
    corner = book.depot
    steps = []
    while len(streets) > 0:
        street = street_to_take(streets, left, corner)
        times_before = walked.get(street.number, 0)
        steps.append(Step(street, 1 if corner == street.second else 0, what_is_served(street, times_before)))
        streets = left_after(streets, left, street)
        left[street.number] = left[street.number] - 1
        walked[street.number] = times_before + 1
        corner = other_end(street, corner)
    return steps


def is_served(step, point):
    """Whether the point lies on a side that the step serves."""
    if point.street_number != step.street.number:
        return False
    if step.serves == BOTH_SIDES:
        return True
    return step.serves == (FIRST_SIDE if point.side == 0 else SECOND_SIDE)


def how_far_along(step, point):
    """How far the point is from where the step begins."""
    if step.from_second == 1:
        return step.street.length - point.how_far
    return point.how_far


def come_by(step, points):
    """What the step serves, as (how far along, side, number), in the order in which it is come by."""
    return sorted([(how_far_along(step, point), point.side, point.number)
                   for point in points if is_served(step, point)])


def points_in_order(book):
    """The round's order: for each point its number and how far it is till there."""
    before = 0
    order = []
    for step in make_walk(book):
        for place in come_by(step, book.points):
            order.append((place[2], before + place[0]))
        before = before + step.street.length
    return order
