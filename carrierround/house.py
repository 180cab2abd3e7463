"""The program's one door: a list of calls on one round that is new, and their answers."""

from carrierround.asking import ask_judge, ask_odd, ask_order, ask_plan, ask_walk, ask_way
from carrierround.book import Book
from carrierround.looking import (
    look_counts, look_goes_to, look_item_at, look_orders, look_point_at, look_street_at, look_tour)
from carrierround.telling import (
    tell_begin, tell_cancel, tell_done, tell_forward, tell_hold, tell_item, tell_point, tell_street)

BEGIN = 0
STREET = 1
POINT = 2
PLAN = 3
WALK = 4
ORDER = 5
WAY = 6
ODD = 7
JUDGE = 8
FORWARD = 9
HOLD = 10
CANCEL = 11
ITEM = 12
GOES_TO = 13
TOUR = 14
DONE = 15
ITEM_AT = 16
STREET_AT = 17
POINT_AT = 18
ORDERS = 19
COUNTS = 20

# How many whole numbers each call has, by its number; judge has a row instead, which tells it itself.
HOW_MANY = {
    0: 2, 1: 4, 2: 3, 3: 0, 4: 0, 5: 0, 6: 2, 7: 0, 9: 4, 10: 3,
    11: 1, 12: 2, 13: 2, 14: 1, 15: 1, 16: 1, 17: 1, 18: 1, 19: 1, 20: 0}


def tell(book, call, numbers):
    """The answer of a call that changes the book."""
    if call == BEGIN:
        return tell_begin(book, numbers[0], numbers[1])
    if call == STREET:
        return tell_street(book, numbers[0], numbers[1], numbers[2], numbers[3])
    if call == POINT:
        return tell_point(book, numbers[0], numbers[1], numbers[2])
    if call == FORWARD:
        return tell_forward(book, numbers[0], numbers[1], numbers[2], numbers[3])
    if call == HOLD:
        return tell_hold(book, numbers[0], numbers[1], numbers[2])
    if call == CANCEL:
        return tell_cancel(book, numbers[0])
    if call == ITEM:
        return tell_item(book, numbers[0], numbers[1])
    return tell_done(book, numbers[0])


def ask(book, call, numbers):
    """The answer of a call about ways and walks."""
    if call == PLAN:
        return ask_plan(book)
    if call == WALK:
        return ask_walk(book)
    if call == ORDER:
        return ask_order(book)
    if call == WAY:
        return ask_way(book, numbers[0], numbers[1])
    if call == ODD:
        return ask_odd(book)
    return ask_judge(book, numbers)


def look(book, call, numbers):
    """The answer of a call about orders, items and single things."""
    if call == GOES_TO:
        return look_goes_to(book, numbers[0], numbers[1])
    if call == TOUR:
        return look_tour(book, numbers[0])
    if call == ITEM_AT:
        return look_item_at(book, numbers[0])
    if call == STREET_AT:
        return look_street_at(book, numbers[0])
    if call == POINT_AT:
        return look_point_at(book, numbers[0])
    if call == ORDERS:
        return look_orders(book, numbers[0])
    return look_counts(book)


def answer(book, call, numbers):
    """The answer of a call."""
    if call in (BEGIN, STREET, POINT, FORWARD, HOLD, CANCEL, ITEM, DONE):
        return tell(book, call, numbers)
    if call in (PLAN, WALK, ORDER, WAY, ODD, JUDGE):
        return ask(book, call, numbers)
    return look(book, call, numbers)


def answers(calls):
    """The answers of all calls of the list, each with how many numbers it has ahead of it."""
    book = Book()
    given = []
    at = 0
    while at < len(calls):
        call = calls[at]
        start = at + 1
        if call == JUDGE:
            start = at + 2
            at = start + calls[at + 1]
        else:
            at = start + HOW_MANY[call]
        told = answer(book, call, calls[start:at])
        given.append(len(told))
        given.extend(told)
    return given
