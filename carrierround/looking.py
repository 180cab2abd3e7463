"""The calls about orders, items and single things that change nothing. Each gives back its answer as a list."""

from carrierround.book import MOST_ITEMS, MOST_STREETS
from carrierround.days import follow, goals_on, make_tour
from carrierround.plans import how_often, make_plan
from carrierround.refusals import (
    FINE, day_refusal, first_refusal, numbered_refusal, point_refusal, round_refusal)
from carrierround.rows import flat, row
from carrierround.ways import connected


def look_goes_to(book, day, point):
    """Where an item for the point goes on the day, and the points gone through."""
    refusal = first_refusal([day_refusal(day), point_refusal(book, point)])
    if refusal != FINE:
        return [refusal]
    going = follow(goals_on(book, day), point)
    return [going.how] + row(going.gone)


def look_tour(book, day):
    """The items of the day's tour, each with the point where it's delivered."""
    refusal = first_refusal([day_refusal(day), round_refusal(book)])
    if refusal != FINE:
        return [refusal]
    stops = make_tour(book, day)
    return [len(stops)] + row(flat([(stop.item.number, stop.point) for stop in stops]))


def look_item_at(book, number):
    """An item's state; its point and day, where and when it ended."""
    refusal = numbered_refusal(number, MOST_ITEMS, len(book.all_items))
    if refusal != FINE:
        return [refusal]
    item = book.all_items[number - 1]
    return [item.state] + row([item.point, item.day, item.end_point, item.end_day])


def times_walked(book, street):
    """How often the street is walked; what it needs if there's no plan."""
    if not connected(book):
        return street.needs
    return how_often(book, make_plan(book))[street.number]


def look_street_at(book, number):
    """A street's length; its corners, whether it's wide, how often it's walked."""
    refusal = numbered_refusal(number, MOST_STREETS, len(book.streets))
    if refusal != FINE:
        return [refusal]
    street = book.streets[number - 1]
    return [street.length] + row([street.first, street.second, street.wide, times_walked(book, street)])


def look_point_at(book, number):
    """A point's street; its side, how far it is from the street's first corner."""
    refusal = point_refusal(book, number)
    if refusal != FINE:
        return [refusal]
    point = book.points[number - 1]
    return [point.street_number] + row([point.side, point.how_far])


def look_orders(book, point):
    """The orders for a point, a row each."""
    refusal = point_refusal(book, point)
    if refusal != FINE:
        return [refusal]
    orders = [order for order in book.orders if order.point == point]
    told = [row([order.number, order.to_point, order.from_day, order.to_day]) for order in orders]
    return [len(orders)] + flat(told)


def look_counts(book):
    """How much of everything there is."""
    there = [len(book.streets), len(book.points), len(book.orders), len(book.all_items)]
    return [book.n] + row([book.depot] + there + [book.last_day, 1 if connected(book) else 0])
