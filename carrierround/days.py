"""Orders by days: where an item for a point goes on a day, and the day's tour."""

from carrierround.book import HELD, WAITING
from carrierround.walks import points_in_order

TO_BE_DELIVERED = 1
TO_BE_HELD = 2
RING = 3
TOO_FAR = 4

MOST_SENDINGS_ON = 5

# The goal of a point without an order in force: no point has this number, and it isn't HELD.
STAYS = -1


class Going:
    """How it ends with an item on a day, and the points gone through."""

    def __init__(self, how, gone):
        self.how = how
        self.gone = gone


class Stop:
    """An item of a tour and the point where it's delivered."""

    def __init__(self, item, point):
        self.item = item
        self.point = point


def goals_on(book, day):
    """By each point with an order in force on the day, the point to which that sends on, or HELD."""
    goals = {}
    for order in book.orders:
        if order.from_day <= day and day <= order.to_day:
            # The orders stand as they were told: of several for a point the last one remains.
            goals[order.point] = order.to_point
    return goals


def how_it_ends(gone, goal):
    """How it ends for one who has gone through these points and doesn't go on to the goal."""
    if goal == STAYS:
        return TO_BE_DELIVERED
    if goal == HELD:
        return TO_BE_HELD
    return RING if goal in gone else TOO_FAR


def follow(goals, point):
    """Where an item for the point goes on the day of these goals."""
    gone = [point]
    goal = goals.get(point, STAYS)
    while goal not in (STAYS, HELD) and goal not in gone and len(gone) <= MOST_SENDINGS_ON:
        gone.append(goal)
        goal = goals.get(goal, STAYS)
    return Going(how_it_ends(gone, goal), gone)


def there_and_waiting(book, day):
    """The items that wait and are there on the day."""
    return [item for item in book.all_items if item.state == WAITING and item.day <= day]


def places_in_order(book):
    """By each point's number its place in the round's order."""
    places = {}
    for place, told in enumerate(points_in_order(book)):
        places[told[0]] = place
    return places


def make_tour(book, day):
    """The day's tour, for a round that is connected."""
    goals = goals_on(book, day)
    places = places_in_order(book)
    stops = []
    for item in there_and_waiting(book, day):
        going = follow(goals, item.point)
        if going.how == TO_BE_DELIVERED:
            stops.append(Stop(item, going.gone[-1]))
    return sorted(stops, key=lambda stop: (places[stop.point], stop.item.number))


def to_be_returned(book, day):
    """The items that wait, are there on the day, and come to a ring or too far."""
    goals = goals_on(book, day)
    return [item for item in there_and_waiting(book, day) if follow(goals, item.point).how in (RING, TOO_FAR)]
