"""order: the points as the walk comes by them, and how far each is."""

import unittest

from tests.helper import ORDER, begin, last, point, run, street


def order(*calls):
    """The order as tuples, once its form is seen to be right."""
    answer = last(*calls, ORDER)
    if answer[0] * 2 != answer[1] or len(answer) != 2 + answer[1]:
        raise ValueError("not the form of an order")
    return [tuple(answer[at:at + 2]) for at in range(2, len(answer), 2)]


class RoundOrder(unittest.TestCase):
    def test_no_point(self):
        self.assertEqual(run(ORDER, street(1, 2, 3), ORDER)[::2], [[0, 0], [0, 0]])

    def test_a_narrow_street_serves_both_sides_the_first_time(self):
        self.assertEqual(order(street(1, 2, 10), point(1, 1, 7), point(1, 0, 9), point(1, 1, 2)),
                         [(3, 2), (1, 7), (2, 9)])

    def test_a_street_from_its_second_corner(self):
        self.assertEqual(order(begin(2, 2), street(1, 2, 10), point(1, 1, 7), point(1, 0, 9), point(1, 1, 2)),
                         [(2, 1), (1, 3), (3, 8)])

    def test_a_wide_street_serves_one_side_a_time(self):
        points = [point(1, 1, 7), point(1, 0, 9), point(1, 1, 2), point(1, 0, 1)]
        self.assertEqual(order(street(1, 2, 10, 1), *points), [(4, 1), (2, 9), (1, 13), (3, 18)])
        self.assertEqual(order(begin(2, 2), street(1, 2, 10, 1), *points), [(2, 1), (4, 9), (3, 12), (1, 17)])

    def test_at_one_place_the_first_side_then_by_numbers(self):
        points = [point(1, 1, 5), point(1, 0, 5), point(1, 1, 5), point(1, 0, 5), point(1, 1, 4)]
        self.assertEqual(order(street(1, 2, 10), *points), [(5, 4), (2, 5), (4, 5), (1, 5), (3, 5)])
        self.assertEqual(order(begin(2, 2), street(1, 2, 10), *points), [(2, 5), (4, 5), (1, 5), (3, 5), (5, 6)])

    def test_points_at_a_streets_ends(self):
        points = [point(1, 1, 10), point(1, 0, 0), point(1, 0, 10), point(1, 1, 0)]
        self.assertEqual(order(street(1, 2, 10), *points), [(2, 0), (4, 0), (3, 10), (1, 10)])
        self.assertEqual(order(street(1, 2, 10, 1), *points), [(2, 0), (3, 10), (1, 10), (4, 20)])

    def test_points_at_one_corner_on_two_streets_go_by_the_steps(self):
        streets = [street(1, 2, 5), street(2, 3, 7), street(3, 1, 9)]
        points = [point(2, 0, 0), point(1, 1, 5), point(3, 1, 9), point(1, 0, 0)]
        self.assertEqual(order(*streets, *points), [(4, 0), (2, 5), (1, 5), (3, 21)])

    def test_how_far_is_told_with_the_steps_before(self):
        streets = [street(1, 2, 5), street(2, 3, 7), street(3, 1, 9)]
        points = [point(3, 0, 1), point(2, 1, 2), point(1, 0, 3)]
        self.assertEqual(order(*streets, *points), [(3, 3), (2, 7), (1, 13)])
        self.assertEqual(order(begin(3, 3), *streets, *points), [(2, 5), (3, 9), (1, 20)])

    def test_a_step_that_serves_nothing_is_still_gone(self):
        streets = [street(1, 2, 4), street(2, 1, 4), street(1, 2, 6)]
        points = [point(3, 0, 1), point(2, 0, 1), point(1, 0, 1)]
        self.assertEqual(order(*streets, *points), [(3, 1), (2, 11), (1, 17)])

    def test_a_wide_street_walked_three_times_serves_each_side_once(self):
        streets = [street(1, 2, 9), street(2, 1, 2, 1)]
        points = [point(2, 1, 0), point(2, 0, 0), point(2, 1, 2), point(2, 0, 1), point(1, 1, 9)]
        self.assertEqual(order(*streets, *points), [(5, 9), (2, 9), (4, 10), (3, 11), (1, 13)])

    def test_both_sides_of_a_wide_street_in_one_direction(self):
        streets = [street(2, 3, 1), street(2, 4, 1), street(1, 2, 10, 1), street(3, 1, 1), street(4, 1, 1)]
        points = [point(3, 1, 3), point(3, 0, 3), point(3, 1, 0), point(3, 0, 10), point(5, 1, 0)]
        self.assertEqual(order(*streets, *points), [(2, 3), (4, 10), (3, 12), (1, 15), (5, 23)])

    def test_sixty_points_at_one_place(self):
        points = [point(1, 1, 3)] * 30 + [point(1, 0, 3)] * 30
        self.assertEqual(order(street(1, 2, 4), *points),
                         [(number, 3) for number in range(31, 61)] + [(number, 3) for number in range(1, 31)])

    def test_it_follows_what_is_told(self):
        given = run(street(1, 2, 4), point(1, 0, 3), ORDER, point(1, 1, 1), ORDER, street(1, 2, 5), ORDER,
                    begin(4, 2), ORDER)
        self.assertEqual([given[2], given[4], given[6], given[8]],
                         [[1, 2, 1, 3], [2, 4, 2, 1, 1, 3], [2, 4, 2, 1, 1, 3], [0, 0]])
