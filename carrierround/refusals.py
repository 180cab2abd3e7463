"""The numbers of the refusals, and what several calls are refused for."""

from carrierround.book import MOST_ORDERS, MOST_POINTS
from carrierround.ways import connected

FINE = 0
OUT_OF_RANGE = -1
NO_SUCH_STREET = -2
NOT_THERE = -4
AS_TOLD = -6
NO_WAY = -7
TOO_MANY = -8

LAST_DAY = 100000
GREATEST_ORDER = 1000000


def within(number, least, greatest):
    """Whether the number is from the least to the greatest one."""
    return least <= number and number <= greatest


def first_refusal(refusals):
    """The first that isn't FINE, of what was found in the order in which a call tells its refusals."""
    for refusal in refusals:
        if refusal != FINE:
            return refusal
    return FINE


def numbered_refusal(number, most, there):
    """What the number of a thing is refused for, of which there may be so many and are so many."""
    if not within(number, 1, most):
        return OUT_OF_RANGE
    return FINE if number <= there else NOT_THERE


def point_refusal(book, point):
    """What a point is refused for."""
    return numbered_refusal(point, MOST_POINTS, len(book.points))


def order_refusal(book, number):
    """What an order's number is refused for."""
    if not within(number, 1, GREATEST_ORDER):
        return OUT_OF_RANGE
    return FINE if number in [order.number for order in book.orders] else NOT_THERE


def day_refusal(day):
    """What a day is refused for."""
    return FINE if within(day, 0, LAST_DAY) else OUT_OF_RANGE


def days_refusal(from_day, to_day):
    """What a day to a day is refused for."""
    return first_refusal([
        day_refusal(from_day),
        day_refusal(to_day),
        AS_TOLD if to_day < from_day else FINE])


def round_refusal(book):
    """What all that needs a plan is refused for."""
    return FINE if connected(book) else NO_WAY


def room_refusal(there, most):
    """What one more is refused for, where so many are there and so many may be."""
    return FINE if there < most else TOO_MANY


def order_room_refusal(book):
    """What one more order is refused for."""
    return room_refusal(len(book.orders), MOST_ORDERS)
