"""The calls about ways and walks, which change nothing. Each gives back its answer as a list: a number, then rows."""

from carrierround.plans import make_plan
from carrierround.refusals import NO_SUCH_STREET, NO_WAY, OUT_OF_RANGE, within
from carrierround.rows import flat, row
from carrierround.walks import make_walk, points_in_order
from carrierround.ways import FAR, connected, distances, is_at, other_end, way

BREAKS_OFF = 0
FALLS_SHORT = 1
DOES_ALL = 2


def numbers_of(streets):
    """The streets' numbers."""
    return [street.number for street in streets]


def ask_plan(book):
    """The total, must and the added streets' lengths, the added streets."""
    if not connected(book):
        return [NO_WAY]
    plan = make_plan(book)
    lengths = [plan.must, plan.added_length]
    return [plan.must + plan.added_length] + row(lengths) + row(numbers_of(plan.added))


def ask_walk(book):
    """The walk's steps."""
    if not connected(book):
        return [NO_WAY]
    steps = make_walk(book)
    told = [(step.street.number, step.from_second, step.serves) for step in steps]
    return [len(steps)] + row(flat(told))


def ask_order(book):
    """The points in the round's order."""
    if not connected(book):
        return [NO_WAY]
    order = points_in_order(book)
    return [len(order)] + row(flat(order))


def ask_way(book, first, second):
    """The distance of two corners and the way from the first to the second."""
    if not within(first, 1, book.n) or not within(second, 1, book.n):
        return [OUT_OF_RANGE]
    table = distances(book.n, book.streets)
    if table[first][second] >= FAR:
        return [NO_WAY]
    return [table[first][second]] + row(numbers_of(way(book.streets, table, first, second)))


def ask_odd(book):
    """The odd corners in their pairing."""
    if not connected(book):
        return [NO_WAY]
    corners = flat(make_plan(book).pairs)
    return [len(corners)] + row(corners)


def breaks_off(streets, depot):
    """Whether a street of the walk isn't at the corner where the one before ended."""
    corner = depot
    for street in streets:
        if not is_at(street, corner):
            return True
        corner = other_end(street, corner)
    return False


def walk_end(streets, depot):
    """Where a walk from the depot ends that doesn't break off."""
    corner = depot
    for street in streets:
        corner = other_end(street, corner)
    return corner


def all_needs_met(book, numbers):
    """Whether every street is among the numbers as often as it needs, or more."""
    return all([numbers.count(street.number) >= street.needs for street in book.streets])


def ask_judge(book, numbers):
    """What a walk from the depot along these streets is worth, its length, where it ends."""
    if not all([within(number, 1, len(book.streets)) for number in numbers]):
        return [NO_SUCH_STREET]
    streets = [book.streets[number - 1] for number in numbers]
    if breaks_off(streets, book.depot):
        return [BREAKS_OFF] + row([])
    end = walk_end(streets, book.depot)
    worth = DOES_ALL if end == book.depot and all_needs_met(book, numbers) else FALLS_SHORT
    return [worth] + row([sum([street.length for street in streets]), end])
