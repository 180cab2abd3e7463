"""The calls that change the book. Each gives back its answer as a list: a number, then rows."""

from carrierround.book import HELD, MOST_CORNERS, MOST_ITEMS, MOST_POINTS, MOST_STREETS, RETURNED, WAITING
from carrierround.days import make_tour, to_be_returned
from carrierround.refusals import (
    AS_TOLD, FINE, OUT_OF_RANGE,
    day_refusal, days_refusal, first_refusal, numbered_refusal, order_refusal, order_room_refusal, point_refusal,
    room_refusal, round_refusal, within)
from carrierround.rows import row

MOST_LENGTH = 1000000


def tell_begin(book, n, depot):
    """All is new, with n corners and this depot."""
    if not within(n, 1, MOST_CORNERS) or not within(depot, 1, n):
        return [OUT_OF_RANGE]
    book.begin(n, depot)
    return [0]


def street_refusal(book, first, second, length, wide):
    """What a new street is refused for."""
    if not within(first, 1, book.n) or not within(second, 1, book.n):
        return OUT_OF_RANGE
    if not within(length, 1, MOST_LENGTH) or not within(wide, 0, 1):
        return OUT_OF_RANGE
    if first == second:
        return AS_TOLD
    return room_refusal(len(book.streets), MOST_STREETS)


def tell_street(book, first, second, length, wide):
    """A new street."""
    refusal = street_refusal(book, first, second, length, wide)
    if refusal != FINE:
        return [refusal]
    return [book.add_street(first, second, length, wide)]


def new_point_refusal(book, street, side, how_far):
    """What a new point is refused for."""
    # A street that isn't there has no length: how far is looked at last but one.
    if not within(street, 1, MOST_STREETS) or not within(side, 0, 1):
        return OUT_OF_RANGE
    refusal = numbered_refusal(street, MOST_STREETS, len(book.streets))
    if refusal != FINE:
        return refusal
    if not within(how_far, 0, book.streets[street - 1].length):
        return OUT_OF_RANGE
    return room_refusal(len(book.points), MOST_POINTS)


def tell_point(book, street, side, how_far):
    """A new point."""
    refusal = new_point_refusal(book, street, side, how_far)
    if refusal != FINE:
        return [refusal]
    return [book.add_point(street, side, how_far)]


def tell_forward(book, point, to_point, from_day, to_day):
    """A new order that sends on to another point."""
    refusal = first_refusal([
        days_refusal(from_day, to_day),
        point_refusal(book, point),
        point_refusal(book, to_point),
        AS_TOLD if point == to_point else FINE,
        order_room_refusal(book)])
    if refusal != FINE:
        return [refusal]
    return [book.add_order(point, to_point, from_day, to_day)]


def tell_hold(book, point, from_day, to_day):
    """A new order that holds."""
    refusal = first_refusal([
        days_refusal(from_day, to_day),
        point_refusal(book, point),
        order_room_refusal(book)])
    if refusal != FINE:
        return [refusal]
    return [book.add_order(point, HELD, from_day, to_day)]


def tell_cancel(book, number):
    """An order that isn't there any more."""
    refusal = order_refusal(book, number)
    if refusal != FINE:
        return [refusal]
    book.drop_order(number)
    return [0]


def tell_item(book, point, day):
    """A new item."""
    refusal = first_refusal([
        day_refusal(day),
        point_refusal(book, point),
        room_refusal(len(book.all_items), MOST_ITEMS)])
    if refusal != FINE:
        return [refusal]
    return [book.add_item(point, day)]


def tell_done(book, day):
    """The day's tour is delivered, and what comes to a ring or too far is returned."""
    refusal = first_refusal([
        day_refusal(day),
        round_refusal(book),
        AS_TOLD if day < book.last_day else FINE])
    if refusal != FINE:
        return [refusal]
    stops = make_tour(book, day)
    for item in to_be_returned(book, day):
        item.give_back(day)
    for stop in stops:
        stop.item.deliver(stop.point, day)
    book.last_day = day
    return [len(stops)] + row([book.how_many_in(WAITING), book.how_many_in(RETURNED)])
