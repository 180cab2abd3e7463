"""What a round is made of, and the book in which one round is kept."""

MOST_CORNERS = 10
MOST_STREETS = 20
MOST_POINTS = 60
MOST_ORDERS = 40
MOST_ITEMS = 200

CORNERS_AT_FIRST = 4
DEPOT_AT_FIRST = 1

# The point to which an order sends on that holds: no point has this number.
HELD = 0

# The states of an item.
WAITING = 0
DELIVERED = 1
RETURNED = 2


class Street:
    """A street between two unlike corners."""

    def __init__(self, number, first, second, length, wide):
        self.number = number
        self.first = first
        self.second = second
        self.length = length
        self.wide = wide
        self.needs = 2 if wide == 1 else 1


class Point:
    """A point on one side (0 or 1) of a street, so far from the street's first corner."""

    def __init__(self, number, street_number, side, how_far):
        self.number = number
        self.street_number = street_number
        self.side = side
        self.how_far = how_far


class Order:
    """An order for a point, from a day to a day: it sends on to another point, or it holds."""

    def __init__(self, number, point, to_point, from_day, to_day):
        self.number = number
        self.point = point
        self.to_point = to_point
        self.from_day = from_day
        self.to_day = to_day


class Item:
    """An item for a point, there from a day on; once it doesn't wait any more, where and when it ended."""

    def __init__(self, number, point, day):
        self.number = number
        self.point = point
        self.day = day
        self.state = WAITING
        self.end_point = 0
        self.end_day = 0

    def deliver(self, point, day):
        self.state = DELIVERED
        self.end_point = point
        self.end_day = day

    def give_back(self, day):
        self.state = RETURNED
        self.end_day = day


class Book:
    """One round: its corners and depot, its streets, points, orders and items, the last day done."""

    def __init__(self):
        self.begin(CORNERS_AT_FIRST, DEPOT_AT_FIRST)

    def begin(self, n, depot):
        self.n = n
        self.depot = depot
        self.streets = []
        self.points = []
        self.orders = []
        # Kept beside the orders: a number isn't given again when its order is gone.
        self.last_order = 0
        self.all_items = []
        self.last_day = 0

    def add_street(self, first, second, length, wide):
        number = len(self.streets) + 1
        self.streets.append(Street(number, first, second, length, wide))
        return number

    def add_point(self, street_number, side, how_far):
        number = len(self.points) + 1
        self.points.append(Point(number, street_number, side, how_far))
        return number

    def add_order(self, point, to_point, from_day, to_day):
        self.last_order = self.last_order + 1
        self.orders.append(Order(self.last_order, point, to_point, from_day, to_day))
        return self.last_order

    def drop_order(self, number):
        self.orders = [order for order in self.orders if order.number != number]

    def add_item(self, point, day):
        number = len(self.all_items) + 1
        self.all_items.append(Item(number, point, day))
        return number

    def how_many_in(self, state):
        return len([item for item in self.all_items if item.state == state])
