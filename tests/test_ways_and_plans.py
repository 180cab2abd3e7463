"""way, odd and plan: distances, ways, the pairing, the added streets, and what is chosen of equals."""

import unittest

from tests.helper import GREATEST, LEAST, ODD, ORDER, PLAN, WALK, Reckoning, begin, last, run, street, way


class Way(unittest.TestCase):
    def test_a_corner_to_itself(self):
        self.assertEqual(run(way(1, 1), street(1, 2, 5), way(1, 1), way(2, 2), way(4, 4)),
                         [[0, 0], [1], [0, 0], [0, 0], [0, 0]])

    def test_a_round_about_way_that_is_shorter(self):
        self.assertEqual(last(street(1, 3, 10), street(1, 2, 4), street(2, 3, 5), way(1, 3)), [9, 2, 2, 3])
        self.assertEqual(last(street(1, 3, 10), street(1, 2, 4), street(2, 3, 5), way(3, 1)), [9, 2, 3, 2])

    def test_wide_streets_are_as_long_as_narrow_ones(self):
        self.assertEqual(last(street(1, 2, 4, 1), street(2, 3, 5, 1), street(1, 3, 10), way(1, 3)), [9, 2, 1, 2])

    def test_of_equal_ways_the_least_street_at_each_corner(self):
        square = [street(1, 2, 1), street(3, 4, 1), street(1, 3, 1), street(2, 4, 1)]
        self.assertEqual(run(*square, way(1, 4), way(4, 1))[-2:], [[2, 2, 1, 4], [2, 2, 2, 3]])

    def test_the_least_street_first_though_more_streets_follow(self):
        streets = [street(1, 2, 1), street(2, 3, 1), street(3, 4, 1), street(1, 4, 3)]
        self.assertEqual(run(*streets, way(1, 4), way(4, 1))[-2:], [[3, 3, 1, 2, 3], [3, 3, 3, 2, 1]])
        streets = [street(1, 4, 3), street(1, 2, 1), street(2, 3, 1), street(3, 4, 1)]
        self.assertEqual(last(*streets, way(1, 4)), [3, 1, 1])

    def test_several_streets_between_two_corners(self):
        streets = [street(1, 2, 6), street(2, 1, 4), street(1, 2, 4)]
        self.assertEqual(run(*streets, way(1, 2), way(2, 1))[-2:], [[4, 1, 2], [4, 1, 2]])

    def test_no_way(self):
        streets = [street(1, 2, 6), street(3, 4, 5)]
        self.assertEqual(run(*streets, way(1, 3), way(4, 2), way(3, 4), way(1, 2))[-4:],
                         [[-7], [-7], [5, 1, 2], [6, 1, 1]])

    def test_a_way_where_the_round_is_not_connected(self):
        self.assertEqual(last(begin(4, 1), street(3, 4, 5), way(4, 3)), [5, 1, 1])

    def test_the_longest_way(self):
        chain = [street(corner, corner + 1, 1000000) for corner in range(1, 10)]
        self.assertEqual(last(begin(10, 1), *chain, way(10, 1)), [9000000, 9, 9, 8, 7, 6, 5, 4, 3, 2, 1])

    def test_a_corner_out_of_range(self):
        for first, second in ((0, 1), (5, 1), (1, 0), (1, 5), (-1, -1), (5, 5), (LEAST, 1), (1, LEAST),
                              (GREATEST, 1), (1, GREATEST)):
            with self.subTest(first=first, second=second):
                self.assertEqual(last(street(1, 2, 3), way(first, second)), [-1])

    def test_out_of_range_is_told_before_no_way(self):
        self.assertEqual(run(way(1, 2), way(1, 5)), [[-7], [-1]])


class NotConnected(unittest.TestCase):
    def test_plan_walk_order_and_odd_are_refused(self):
        for streets in ([street(2, 3, 1)], [street(1, 2, 1), street(3, 4, 1)], [street(1, 2, 1, 1), street(4, 3, 1, 1)]):
            with self.subTest(streets=streets):
                self.assertEqual(run(*streets, PLAN, WALK, ORDER, ODD)[-4:], [[-7]] * 4)

    def test_it_is_by_the_depot(self):
        self.assertEqual(run(begin(3, 1), street(2, 3, 1, 1), PLAN, begin(3, 3), street(2, 3, 1, 1), PLAN)[2::3],
                         [[-7], [2, 2, 2, 0, 0]])

    def test_a_street_that_joins_it(self):
        self.assertEqual(run(street(3, 4, 2), PLAN, street(2, 3, 2), PLAN, street(1, 2, 2), PLAN)[1::2],
                         [[-7], [-7], [12, 2, 6, 6, 3, 3, 2, 1]])

    def test_corners_without_a_street_do_not_matter(self):
        self.assertEqual(last(begin(10, 5), street(5, 9, 3), PLAN), [6, 2, 3, 3, 1, 1])

    def test_no_street_at_all_is_connected(self):
        for n in (1, 10):
            self.assertEqual(run(begin(n, n), PLAN, WALK, ORDER, ODD)[1:], [[0, 2, 0, 0, 0], [0, 0], [0, 0], [0, 0]])


class OddAndPlan(unittest.TestCase):
    def test_no_odd_corner(self):
        triangle = [street(1, 2, 5), street(2, 3, 7), street(3, 1, 9)]
        self.assertEqual(run(*triangle, ODD, PLAN)[-2:], [[0, 0], [21, 2, 21, 0, 0]])

    def test_a_wide_street_needs_two(self):
        self.assertEqual(run(street(1, 2, 5, 1), ODD, PLAN)[1:], [[0, 0], [10, 2, 10, 0, 0]])
        self.assertEqual(run(street(1, 2, 5, 1), street(2, 3, 4), ODD, PLAN)[2:],
                         [[2, 2, 2, 3], [18, 2, 14, 4, 1, 2]])

    def test_added_streets_of_a_longer_way(self):
        chain = [street(1, 2, 5), street(2, 3, 7), street(4, 3, 9)]
        self.assertEqual(run(*chain, ODD, PLAN)[-2:], [[2, 2, 1, 4], [42, 2, 21, 21, 3, 1, 2, 3]])

    def test_added_is_a_shorter_wide_street(self):
        streets = [street(1, 2, 9), street(2, 1, 2, 1)]
        self.assertEqual(run(*streets, ODD, PLAN)[-2:], [[2, 2, 1, 2], [15, 2, 13, 2, 1, 2]])

    def test_the_way_is_from_the_lesser_corner(self):
        # From corner 1 the way to 4 is by street 1; from corner 4 it would be by street 2.
        streets = [street(1, 2, 1), street(4, 3, 1), street(3, 1, 1), street(2, 4, 1), street(1, 4, 5)]
        self.assertEqual(run(*streets, ODD, PLAN)[-2:], [[2, 2, 1, 4], [11, 2, 9, 2, 2, 1, 4]])

    def test_the_least_pairing_is_not_the_nearest_partner_first(self):
        # The pair 2, 3 is near, but then 1 and 4 are far: 1 + 21 against 10 + 10.
        streets = [street(1, 2, 10), street(2, 3, 1, 1), street(3, 4, 10)]
        self.assertEqual(run(*streets, ODD, PLAN)[-2:], [[4, 4, 1, 2, 3, 4], [42, 2, 22, 20, 2, 1, 3]])

    def test_a_least_pairing_that_is_not_the_first(self):
        streets = [street(1, 2, 10), street(3, 4, 10), street(1, 4, 3), street(2, 3, 4), street(1, 3, 9), street(2, 4, 9)]
        self.assertEqual(run(*streets, ODD, PLAN)[-2:], [[4, 4, 1, 4, 2, 3], [52, 2, 45, 7, 2, 3, 4]])

    def test_of_equal_pairings_the_least_partner(self):
        streets = [street(3, 4, 1), street(2, 4, 1), street(2, 3, 1), street(1, 4, 1), street(1, 3, 1), street(1, 2, 1)]
        self.assertEqual(run(*streets, ODD, PLAN)[-2:], [[4, 4, 1, 2, 3, 4], [8, 2, 6, 2, 2, 6, 1]])

    def test_of_two_equal_pairings_that_are_not_the_first(self):
        streets = [street(1, 2, 10), street(3, 4, 10), street(1, 4, 3), street(2, 3, 3), street(1, 3, 3), street(2, 4, 3)]
        self.assertEqual(run(*streets, ODD, PLAN)[-2:], [[4, 4, 1, 3, 2, 4], [38, 2, 32, 6, 2, 5, 6]])

    def test_of_equal_pairings_the_least_partner_of_the_next_one_left(self):
        streets = [street(5, 6, 1), street(4, 6, 1), street(4, 5, 1), street(3, 6, 1), street(3, 5, 1), street(3, 4, 1),
                   street(1, 2, 1), street(2, 3, 100, 1)]
        self.assertEqual(run(begin(6, 1), *streets, ODD, PLAN)[-2:],
                         [[6, 6, 1, 2, 3, 4, 5, 6], [210, 2, 207, 3, 3, 7, 6, 1]])

    def test_ten_odd_corners(self):
        outer = [street(corner, corner % 5 + 1, 10) for corner in range(1, 6)]
        inner = [street(corner + 5, (corner + 1) % 5 + 6, 10) for corner in range(1, 6)]
        spokes = [street(corner, corner + 5, 9) for corner in range(1, 6)]
        given = run(begin(10, 3), *outer, *inner, *spokes, ODD, PLAN)
        self.assertEqual(given[-2], [10, 10, 1, 6, 2, 7, 3, 8, 4, 9, 5, 10])
        self.assertEqual(given[-1], [190, 2, 145, 45, 5, 11, 12, 13, 14, 15])

    def test_ten_odd_corners_all_alike(self):
        streets = [street(1, corner, 1) for corner in range(2, 11)]
        self.assertEqual(run(begin(10, 1), *streets, ODD, PLAN)[-2:],
                         [[10, 10, 1, 2, 3, 4, 5, 6, 7, 8, 9, 10],
                          [18, 2, 9, 9, 9, 1, 2, 3, 4, 5, 6, 7, 8, 9]])

    def test_twenty_streets(self):
        streets = [(1, 2, 1000000, 1)] * 19 + [(1, 2, 1000000, 0)]
        calls = Reckoning(2, 1, streets).calls()
        self.assertEqual(run(*calls, PLAN, ODD)[-2:], [[40000000, 2, 39000000, 1000000, 1, 1], [2, 2, 1, 2]])

    def test_the_plan_follows_what_is_told(self):
        self.assertEqual(run(street(1, 2, 5), PLAN, street(2, 1, 3), PLAN, street(1, 2, 4), PLAN)[1::2],
                         [[10, 2, 5, 5, 1, 1], [8, 2, 8, 0, 0], [15, 2, 12, 3, 1, 2]])
