"""judge: walks that break off, that fall short, that do all; streets that aren't there."""

import unittest

from tests.helper import GREATEST, LEAST, PLAN, begin, judge, last, run, street

TRIANGLE = [begin(4, 2), street(1, 2, 5), street(2, 3, 7), street(3, 1, 9, 1)]


class Judge(unittest.TestCase):
    def test_an_empty_row(self):
        self.assertEqual(run(begin(3, 3), judge(), street(1, 2, 4), judge()), [[0], [2, 2, 0, 3], [1], [1, 2, 0, 3]])

    def test_a_street_that_is_not_there(self):
        for number in (0, 4, -1, 20, 21, LEAST, GREATEST):
            with self.subTest(number=number):
                self.assertEqual(last(*TRIANGLE, judge(number)), [-2])
                self.assertEqual(last(*TRIANGLE, judge(1, 3, number, 2)), [-2])
                self.assertEqual(last(*TRIANGLE, judge(1, 3, 2, number)), [-2])

    def test_not_there_is_told_before_breaking_off(self):
        self.assertEqual(run(*TRIANGLE, judge(3), judge(3, 4))[-2:], [[0, 0], [-2]])

    def test_a_walk_that_breaks_off(self):
        for streets in ((3,), (1, 2), (2, 1), (1, 3, 1), (1, 3, 3, 2), (2, 2, 3)):
            with self.subTest(streets=streets):
                self.assertEqual(last(*TRIANGLE, judge(*streets)), [0, 0])

    def test_a_walk_that_does_not_end_at_the_depot(self):
        self.assertEqual(last(*TRIANGLE, judge(1)), [1, 2, 5, 1])
        self.assertEqual(last(*TRIANGLE, judge(2, 3, 3)), [1, 2, 25, 3])
        self.assertEqual(last(*TRIANGLE, judge(1, 1, 2, 3, 3)), [1, 2, 35, 3])

    def test_a_walk_that_leaves_a_need(self):
        self.assertEqual(last(*TRIANGLE, judge(1, 3, 2)), [1, 2, 21, 2])
        self.assertEqual(last(*TRIANGLE, judge(1, 3, 3, 1)), [1, 2, 28, 2])
        self.assertEqual(last(*TRIANGLE, judge(1, 1)), [1, 2, 10, 2])

    def test_a_walk_that_does_all(self):
        self.assertEqual(last(*TRIANGLE, judge(1, 3, 3, 1, 2, 2)), [2, 2, 42, 2])
        self.assertEqual(last(*TRIANGLE, judge(2, 3, 3, 3, 1)), [2, 2, 39, 2])

    def test_more_than_is_needed(self):
        self.assertEqual(last(*TRIANGLE, judge(1, 1, 1, 3, 3, 3, 2)), [2, 2, 49, 2])

    def test_a_wide_street_in_one_direction_twice(self):
        ring = [street(1, 2, 3, 1), street(2, 1, 4, 1)]
        self.assertEqual(run(*ring, judge(1, 2, 1, 2), judge(1, 1, 2, 2), judge(1, 2))[-3:],
                         [[2, 2, 14, 1], [2, 2, 14, 1], [1, 2, 7, 1]])

    def test_a_round_that_is_not_connected(self):
        streets = [street(1, 2, 3), street(3, 4, 5)]
        self.assertEqual(run(*streets, judge(1, 1), judge(1, 2), judge(), judge(3))[-4:],
                         [[1, 2, 6, 1], [0, 0], [1, 2, 0, 1], [-2]])

    def test_400_streets(self):
        self.assertEqual(last(street(1, 2, 1000000), judge(*[1] * 400)), [2, 2, 400000000, 1])
        self.assertEqual(last(street(1, 2, 1000000), street(3, 4, 1), judge(*[1] * 399 + [2])), [0, 0])

    def test_nothing_changes(self):
        given = run(*TRIANGLE, PLAN, judge(1, 3, 3, 1, 2, 2), judge(9), judge(3), PLAN, street(1, 2, 3))
        self.assertEqual(given[4], given[8])
        self.assertEqual(given[9], [4])
