"""The program's one door: a list of calls on one round that is new, and their answers."""

from carrierround.asking import ask_judge, ask_odd, ask_order, ask_plan, ask_walk, ask_way
from carrierround.book import Book
from carrierround.telling import tell_begin, tell_forward, tell_hold, tell_point, tell_street

BEGIN = 0
STREET = 1
POINT = 2
PLAN = 3
WALK = 4
ORDER = 5
WAY = 6
ODD = 7
JUDGE = 8
FORWARD = 9
HOLD = 10

# How many whole numbers each call has, by its number; judge has a row instead, which tells it itself.
HOW_MANY = {0: 2, 1: 4, 2: 3, 3: 0, 4: 0, 5: 0, 6: 2, 7: 0, 9: 4, 10: 3}


def tell(book, call, numbers):
    """The answer of a call that changes the book."""
    if call == BEGIN:
        return tell_begin(book, numbers[0], numbers[1])
    if call == STREET:
        return tell_street(book, numbers[0], numbers[1], numbers[2], numbers[3])
    if call == POINT:
        return tell_point(book, numbers[0], numbers[1], numbers[2])
    if call == FORWARD:
        return tell_forward(book, numbers[0], numbers[1], numbers[2], numbers[3])
    return tell_hold(book, numbers[0], numbers[1], numbers[2])


def ask(book, call, numbers):
    """The answer of a call that changes nothing."""
    if call == PLAN:
        return ask_plan(book)
    if call == WALK:
        return ask_walk(book)
    if call == ORDER:
        return ask_order(book)
    if call == WAY:
        return ask_way(book, numbers[0], numbers[1])
    if call == ODD:
        return ask_odd(book)
    return ask_judge(book, numbers)


def answer(book, call, numbers):
    """The answer of a call."""
    if call in (BEGIN, STREET, POINT, FORWARD, HOLD):
        return tell(book, call, numbers)
    return ask(book, call, numbers)


def answers(calls):
    """The answers of all calls of the list, each with how many numbers it has ahead of it."""
    book = Book()
    given = []
    at = 0
    while at < len(calls):
        call = calls[at]
        start = at + 1
        if call == JUDGE:
            start = at + 2
            at = start + calls[at + 1]
        else:
            at = start + HOW_MANY[call]
        told = answer(book, call, calls[start:at])
        given.append(len(told))
        given.extend(told)
    return given
