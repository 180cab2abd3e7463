"""goes to: no order, held, rings, too far, the days of orders, and which of several is in force."""

import unittest

from tests.helper import (
    COUNTS, GREATEST, LEAST, cancel, forward, goes_to, hold, last, orders, point, run, street)

NINE = [street(1, 2, 9)] + [point(1, 0, number) for number in range(1, 10)]


def told(*calls):
    return run(*NINE, *calls)[len(NINE):]


def chain(*points):
    """Orders for days 1 to 3 that send on from each of these points to the next one."""
    return [forward(one, other, 1, 3) for one, other in zip(points, points[1:])]


def end(*calls):
    """Where an item for point 1 goes on day 2."""
    return last(*NINE, *calls, goes_to(2, 1))


class WhereItGoes(unittest.TestCase):
    def test_no_order(self):
        self.assertEqual(told(goes_to(0, 1), goes_to(100000, 9)), [[1, 1, 1], [1, 1, 9]])

    def test_orders_for_other_points(self):
        self.assertEqual(end(forward(2, 1, 1, 3), hold(3, 1, 3)), [1, 1, 1])

    def test_held(self):
        self.assertEqual(end(hold(1, 1, 3)), [2, 1, 1])

    def test_sent_on_and_held_there(self):
        self.assertEqual(end(forward(1, 4, 1, 3), hold(4, 1, 3)), [2, 2, 1, 4])

    def test_sent_on_once_and_twice(self):
        self.assertEqual(end(*chain(1, 7)), [1, 2, 1, 7])
        self.assertEqual(end(*chain(1, 7, 3)), [1, 3, 1, 7, 3])
        self.assertEqual(last(*NINE, *chain(1, 7, 3), goes_to(2, 7)), [1, 2, 7, 3])

    def test_a_ring_back_to_the_first_point(self):
        self.assertEqual(end(*chain(1, 2, 1)), [3, 2, 1, 2])
        self.assertEqual(end(*chain(1, 5, 3, 1)), [3, 3, 1, 5, 3])

    def test_a_ring_back_to_a_point_in_the_middle(self):
        self.assertEqual(end(*chain(1, 2, 3, 2)), [3, 3, 1, 2, 3])
        self.assertEqual(end(*chain(1, 2, 3, 4, 3)), [3, 4, 1, 2, 3, 4])
        self.assertEqual(end(*chain(1, 6, 5, 4, 6)), [3, 4, 1, 6, 5, 4])

    def test_five_sendings_on_end_well(self):
        self.assertEqual(end(*chain(1, 2, 3, 4, 5)), [1, 5, 1, 2, 3, 4, 5])
        self.assertEqual(end(*chain(1, 2, 3, 4, 5, 6)), [1, 6, 1, 2, 3, 4, 5, 6])

    def test_five_sendings_on_and_held_there(self):
        self.assertEqual(end(*chain(1, 2, 3, 4, 5, 6), hold(6, 1, 3)), [2, 6, 1, 2, 3, 4, 5, 6])

    def test_a_sixth_sending_on_is_too_far(self):
        self.assertEqual(end(*chain(1, 2, 3, 4, 5, 6, 7)), [4, 6, 1, 2, 3, 4, 5, 6])
        self.assertEqual(end(*chain(1, 2, 3, 4, 5, 6, 7, 8)), [4, 6, 1, 2, 3, 4, 5, 6])
        self.assertEqual(end(*chain(1, 2, 3, 4, 5, 6, 7), hold(7, 1, 3)), [4, 6, 1, 2, 3, 4, 5, 6])

    def test_a_sixth_sending_on_to_a_point_gone_through_is_a_ring(self):
        for back in range(1, 6):
            with self.subTest(back=back):
                self.assertEqual(end(*chain(1, 2, 3, 4, 5, 6, back)), [3, 6, 1, 2, 3, 4, 5, 6])

    def test_a_ring_of_seven_is_too_far(self):
        self.assertEqual(end(*chain(1, 2, 3, 4, 5, 6, 7, 1)), [4, 6, 1, 2, 3, 4, 5, 6])

    def test_a_round_that_is_not_connected(self):
        self.assertEqual(end(street(3, 4, 1), *chain(1, 2)), [1, 2, 1, 2])


class Days(unittest.TestCase):
    def test_the_first_and_the_last_day_and_those_beside_them(self):
        for order, sent in ((forward(1, 2, 4, 6), [1, 2, 1, 2]), (hold(1, 4, 6), [2, 1, 1])):
            with self.subTest(order=order):
                given = told(order, *[goes_to(day, 1) for day in range(2, 9)])
                self.assertEqual(given[1:], [[1, 1, 1]] * 2 + [sent] * 3 + [[1, 1, 1]] * 2)

    def test_one_day_alone(self):
        self.assertEqual(told(forward(1, 2, 4, 4), goes_to(3, 1), goes_to(4, 1), goes_to(5, 1))[1:],
                         [[1, 1, 1], [1, 2, 1, 2], [1, 1, 1]])

    def test_the_first_and_the_last_day_of_all(self):
        self.assertEqual(told(hold(1, 0, 0), hold(1, 100000, 100000), goes_to(0, 1), goes_to(1, 1), goes_to(99999, 1),
                              goes_to(100000, 1))[2:], [[2, 1, 1], [1, 1, 1], [1, 1, 1], [2, 1, 1]])

    def test_several_on_one_day_the_one_told_last(self):
        self.assertEqual(end(forward(1, 2, 1, 3), forward(1, 3, 1, 3)), [1, 2, 1, 3])
        self.assertEqual(end(forward(1, 3, 1, 3), forward(1, 2, 1, 3)), [1, 2, 1, 2])
        self.assertEqual(end(forward(1, 3, 1, 3), hold(1, 1, 3)), [2, 1, 1])
        self.assertEqual(end(hold(1, 1, 3), forward(1, 3, 1, 3)), [1, 2, 1, 3])

    def test_the_one_told_last_whatever_its_days(self):
        self.assertEqual(end(forward(1, 3, 2, 2), forward(1, 2, 0, 100000)), [1, 2, 1, 2])
        self.assertEqual(end(forward(1, 2, 0, 100000), forward(1, 3, 2, 2)), [1, 2, 1, 3])
        self.assertEqual(end(forward(1, 2, 0, 2), forward(1, 3, 3, 9)), [1, 2, 1, 2])
        self.assertEqual(end(forward(1, 3, 2, 9), forward(1, 2, 0, 1)), [1, 2, 1, 3])

    def test_three_that_overlap_day_by_day(self):
        given = told(forward(1, 2, 2, 8), hold(1, 4, 6), forward(1, 3, 6, 7), *[goes_to(day, 1) for day in range(1, 10)])
        to_2, held, to_3 = [1, 2, 1, 2], [2, 1, 1], [1, 2, 1, 3]
        self.assertEqual(given[3:], [[1, 1, 1], to_2, to_2, held, held, to_3, to_3, to_2, [1, 1, 1]])

    def test_each_point_by_its_own_orders_on_that_day(self):
        given = told(forward(1, 2, 1, 5), forward(2, 3, 4, 9), forward(3, 1, 5, 5),
                     *[goes_to(day, 1) for day in (3, 4, 5, 6)], goes_to(6, 2))
        self.assertEqual(given[3:], [[1, 2, 1, 2], [1, 3, 1, 2, 3], [3, 3, 1, 2, 3], [1, 1, 1], [1, 2, 2, 3]])

    def test_an_order_told_in_the_place_of_a_cancelled_one(self):
        self.assertEqual(end(forward(1, 2, 1, 3), forward(1, 3, 1, 3), cancel(1), forward(1, 4, 1, 3)), [1, 2, 1, 4])


class Refusals(unittest.TestCase):
    def test_a_day_out_of_range(self):
        for day in (-1, 100001, LEAST, GREATEST):
            with self.subTest(day=day):
                self.assertEqual(told(goes_to(day, 1)), [[-1]])

    def test_the_point(self):
        self.assertEqual(told(*[goes_to(1, number) for number in (0, 61, -1, LEAST, GREATEST, 10, 60, 9)]),
                         [[-1], [-1], [-1], [-1], [-1], [-4], [-4], [1, 1, 9]])

    def test_the_day_is_looked_at_before_the_point(self):
        self.assertEqual(told(goes_to(-1, 10), goes_to(100001, 60), goes_to(0, 10), goes_to(100000, 60)),
                         [[-1], [-1], [-4], [-4]])

    def test_nothing_changes(self):
        given = told(*chain(1, 2, 3), orders(1), COUNTS, goes_to(2, 1), goes_to(-1, 1), goes_to(2, 10), orders(1),
                     COUNTS, goes_to(2, 1))
        self.assertEqual(given[2:5], given[7:])
