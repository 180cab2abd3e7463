"""forward and hold: the new order's number, and the refusals in their order."""

import unittest

from tests.helper import GREATEST, LEAST, ORDER, PLAN, begin, forward, hold, last, point, run, street

FIVE = [street(1, 2, 9)] + [point(1, 0, number) for number in range(1, 6)]


def told(*calls):
    return run(*FIVE, *calls)[len(FIVE):]


class Forward(unittest.TestCase):
    def test_numbers_in_the_order_of_telling(self):
        self.assertEqual(told(forward(1, 2, 0, 0), hold(1, 0, 0), forward(1, 2, 0, 0), forward(5, 1, 3, 100000)),
                         [[1], [2], [3], [4]])

    def test_days_at_their_edges(self):
        self.assertEqual(told(forward(1, 2, 0, 100000), forward(1, 2, 100000, 100000), forward(1, 2, 0, 0)),
                         [[1], [2], [3]])

    def test_a_day_out_of_range(self):
        for from_day, to_day in ((-1, 5), (5, 100001), (100001, 100001), (-2, -1), (LEAST, 5), (5, LEAST),
                                 (GREATEST, 5), (5, GREATEST), (5, -1), (100001, 5)):
            with self.subTest(from_day=from_day, to_day=to_day):
                self.assertEqual(told(forward(1, 2, from_day, to_day)), [[-1]])
                self.assertEqual(told(forward(6, 6, from_day, to_day)), [[-1]])

    def test_the_second_day_before_the_first(self):
        self.assertEqual(told(forward(1, 2, 6, 5), forward(1, 2, 100000, 0), forward(1, 2, 5, 5)), [[-6], [-6], [1]])

    def test_a_point_out_of_range(self):
        for number in (0, 61, -1, LEAST, GREATEST):
            with self.subTest(number=number):
                self.assertEqual(told(forward(number, 2, 1, 2), forward(2, number, 1, 2), forward(number, number, 1, 2)),
                                 [[-1], [-1], [-1]])

    def test_a_point_that_is_not_there(self):
        self.assertEqual(told(forward(6, 1, 1, 2), forward(1, 60, 1, 2), forward(60, 60, 1, 2)), [[-4], [-4], [-4]])

    def test_the_same_point_twice(self):
        self.assertEqual(told(forward(5, 5, 1, 2), forward(1, 1, 1, 1)), [[-6], [-6]])

    def test_which_refusal_is_told_first(self):
        self.assertEqual(told(forward(0, 0, 3, 2), forward(6, 0, 1, 2), forward(0, 6, 1, 2), forward(1, 0, 1, 2),
                              forward(6, 1, 2, 1), forward(6, 6, 1, 2), forward(1, 1, 2, 1)),
                         [[-6], [-4], [-1], [-1], [-6], [-4], [-6]])

    def test_forty_orders_and_no_more(self):
        forty = [forward(1, 2, 0, 1)] * 39 + [hold(3, 0, 1)]
        given = told(*forty, forward(1, 2, 0, 1), forward(1, 1, 0, 1), forward(1, 6, 0, 1), forward(0, 1, 0, 1),
                     forward(1, 2, 1, 0), forward(1, 2, -1, 0), hold(1, 0, 1))
        self.assertEqual(given[:40], [[number] for number in range(1, 41)])
        self.assertEqual(given[40:], [[-8], [-6], [-4], [-1], [-6], [-1], [-8]])

    def test_a_refusal_changes_nothing(self):
        given = told(forward(1, 2, 0, 1), PLAN, ORDER, forward(1, 1, 0, 1), forward(1, 2, 1, 0), forward(0, 1, 0, 1),
                     forward(1, 6, 0, 1), forward(1, 2, 0, -1), PLAN, ORDER, forward(1, 2, 0, 1))
        self.assertEqual(given[8:], given[1:3] + [[2]])

    def test_any_two_points_of_sixty(self):
        sixty = [point(1, 0, 0)] * 60
        self.assertEqual(run(street(1, 2, 1), *sixty, forward(60, 1, 0, 0), forward(1, 60, 0, 0))[-2:], [[1], [2]])


class Hold(unittest.TestCase):
    def test_numbers_in_the_order_of_telling(self):
        self.assertEqual(told(hold(1, 0, 0), hold(1, 0, 100000), forward(1, 2, 0, 0), hold(5, 100000, 100000)),
                         [[1], [2], [3], [4]])

    def test_a_day_out_of_range(self):
        for from_day, to_day in ((-1, 5), (5, 100001), (100001, 100001), (LEAST, 5), (5, LEAST), (GREATEST, 5),
                                 (5, GREATEST), (5, -1), (100001, 5)):
            with self.subTest(from_day=from_day, to_day=to_day):
                self.assertEqual(told(hold(1, from_day, to_day), hold(6, from_day, to_day)), [[-1], [-1]])

    def test_the_second_day_before_the_first(self):
        self.assertEqual(told(hold(1, 6, 5), hold(6, 6, 5), hold(0, 6, 5), hold(1, 5, 5)), [[-6], [-6], [-6], [1]])

    def test_the_point(self):
        self.assertEqual(told(*[hold(number, 1, 2) for number in (0, 61, -1, LEAST, GREATEST, 6, 60, 5)]),
                         [[-1], [-1], [-1], [-1], [-1], [-4], [-4], [1]])

    def test_forty_orders_and_no_more(self):
        forty = [hold(1, 0, 1)] * 40
        given = told(*forty, hold(1, 0, 1), hold(6, 0, 1), hold(0, 0, 1), hold(1, 1, 0), hold(1, -1, 0))
        self.assertEqual(given[:40], [[number] for number in range(1, 41)])
        self.assertEqual(given[40:], [[-8], [-4], [-1], [-6], [-1]])

    def test_a_refusal_changes_nothing(self):
        self.assertEqual(told(hold(1, 0, 1), hold(6, 0, 1), hold(0, 0, 1), hold(1, 1, 0), hold(1, 0, -1), hold(1, 0, 1)),
                         [[1], [-4], [-1], [-6], [-1], [2]])

    def test_a_refusal_at_forty_changes_nothing_till_all_is_new(self):
        forty = [hold(1, 0, 1)] * 40
        self.assertEqual(last(*FIVE, *forty, hold(1, 0, 1), begin(4, 1), *FIVE, hold(5, 0, 1)), [1])
