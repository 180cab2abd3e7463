"""cancel and orders: which orders are there, their numbers, and room for others."""

import unittest

from tests.helper import (
    COUNTS, GREATEST, LEAST, cancel, forward, goes_to, hold, last, orders, point, run, street)

FIVE = [street(1, 2, 9)] + [point(1, 0, number) for number in range(1, 6)]


def told(*calls):
    return run(*FIVE, *calls)[len(FIVE):]


class Cancel(unittest.TestCase):
    def test_the_order_is_not_there_any_more(self):
        self.assertEqual(told(forward(1, 2, 3, 4), hold(1, 5, 6), cancel(1), orders(1), cancel(1), cancel(2), orders(1)),
                         [[1], [2], [0], [1, 4, 2, 0, 5, 6], [-4], [0], [0]])

    def test_a_number_out_of_range(self):
        for number in (0, -1, 1000001, LEAST, GREATEST):
            with self.subTest(number=number):
                self.assertEqual(told(hold(1, 0, 0), cancel(number)), [[1], [-1]])

    def test_an_order_that_is_not_there(self):
        self.assertEqual(told(cancel(1), hold(1, 0, 0), cancel(2), cancel(41), cancel(1000000), cancel(1)),
                         [[-4], [1], [-4], [-4], [-4], [0]])

    def test_numbers_are_not_given_again(self):
        self.assertEqual(told(hold(1, 0, 0), hold(2, 0, 0), cancel(2), hold(3, 0, 0), cancel(1), cancel(3),
                              forward(1, 2, 0, 0), cancel(2), cancel(4), hold(1, 0, 0)),
                         [[1], [2], [0], [3], [0], [0], [4], [-4], [0], [5]])

    def test_it_is_no_longer_in_force(self):
        self.assertEqual(told(forward(1, 2, 0, 9), goes_to(5, 1), cancel(1), goes_to(5, 1))[1:],
                         [[1, 2, 1, 2], [0], [1, 1, 1]])

    def test_the_one_told_before_is_in_force_then(self):
        given = told(hold(1, 0, 9), forward(1, 3, 0, 9), forward(1, 2, 0, 9), goes_to(5, 1), cancel(2), goes_to(5, 1),
                     cancel(3), goes_to(5, 1), cancel(1), goes_to(5, 1))
        self.assertEqual(given[3:], [[1, 2, 1, 2], [0], [1, 2, 1, 2], [0], [2, 1, 1], [0], [1, 1, 1]])

    def test_room_for_another_one_when_there_were_forty(self):
        forty = [hold(1, 0, 1)] * 40
        given = told(*forty, hold(1, 0, 1), cancel(17), hold(2, 0, 1), forward(1, 2, 0, 1), cancel(41), cancel(1),
                     forward(1, 2, 0, 1), hold(2, 0, 1), hold(2, 0, 1), COUNTS)
        self.assertEqual(given[40:-1], [[-8], [0], [41], [-8], [0], [0], [42], [43], [-8]])
        self.assertEqual(given[-1], [4, 7, 1, 1, 5, 40, 0, 0, 1])

    def test_a_refusal_changes_nothing(self):
        given = told(forward(1, 2, 3, 4), hold(1, 5, 6), orders(1), COUNTS, cancel(0), cancel(3), cancel(1000001),
                     orders(1), COUNTS, hold(1, 0, 0))
        self.assertEqual(given[7:], given[2:4] + [[3]])

    def test_many_numbers_of_few_orders(self):
        calls = []
        for number in range(1, 101):
            calls += [hold(1, number, number), cancel(number)]
        self.assertEqual(told(*calls, hold(1, 7, 8), orders(1))[-2:], [[101], [1, 4, 101, 0, 7, 8]])


class Orders(unittest.TestCase):
    def test_no_order(self):
        self.assertEqual(told(orders(1), forward(1, 2, 0, 0), orders(2), hold(2, 0, 0), orders(3)),
                         [[0], [1], [0], [2], [0]])

    def test_in_the_order_of_telling_a_row_each(self):
        given = told(forward(1, 2, 7, 9), hold(2, 1, 2), hold(1, 0, 100000), forward(1, 5, 3, 3), forward(2, 1, 4, 5),
                     orders(1), orders(2))
        self.assertEqual(given[5:], [[3, 4, 1, 2, 7, 9, 4, 3, 0, 0, 100000, 4, 4, 5, 3, 3],
                                     [2, 4, 2, 0, 1, 2, 4, 5, 1, 4, 5]])

    def test_when_one_in_the_middle_is_gone(self):
        given = told(hold(1, 1, 1), hold(1, 2, 2), hold(1, 3, 3), cancel(2), hold(1, 4, 4), orders(1))
        self.assertEqual(given[-1], [3, 4, 1, 0, 1, 1, 4, 3, 0, 3, 3, 4, 4, 0, 4, 4])

    def test_all_forty_for_one_point(self):
        forty = [forward(3, 1 + number % 2, number, number + 1) for number in range(40)]
        rows = [[4, number + 1, 1 + number % 2, number, number + 1] for number in range(40)]
        self.assertEqual(last(*FIVE, *forty, orders(3)), [40] + [number for one in rows for number in one])

    def test_the_point(self):
        self.assertEqual(told(*[orders(number) for number in (0, 61, -1, LEAST, GREATEST, 6, 60, 5)]),
                         [[-1], [-1], [-1], [-1], [-1], [-4], [-4], [0]])

    def test_days_that_are_over_are_told_too(self):
        self.assertEqual(told(hold(1, 1, 2), [15, 50], orders(1))[-1], [1, 4, 1, 0, 1, 2])

    def test_nothing_changes(self):
        given = told(hold(1, 1, 2), orders(1), COUNTS, orders(1), orders(9), COUNTS, goes_to(1, 1))
        self.assertEqual(given[1:3], [given[3], given[5]])
        self.assertEqual(given[6], [2, 1, 1])
