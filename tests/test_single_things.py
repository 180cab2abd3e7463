"""street at, point at and counts: what is told of single things, and how much there is."""

import unittest

from tests.helper import (
    COUNTS, GREATEST, LEAST, PLAN, begin, cancel, done, forward, hold, item, last, point, point_at, run, street, street_at)


class StreetAt(unittest.TestCase):
    def test_a_round_without_added_streets(self):
        streets = [street(1, 2, 5), street(2, 3, 7), street(3, 1, 9), street(3, 2, 4, 1)]
        self.assertEqual(run(*streets, *[street_at(number) for number in (1, 2, 3, 4)])[4:],
                         [[5, 4, 1, 2, 0, 1], [7, 4, 2, 3, 0, 1], [9, 4, 3, 1, 0, 1], [4, 4, 3, 2, 1, 2]])

    def test_added_streets(self):
        chain = [street(1, 2, 5), street(2, 3, 7), street(4, 3, 9)]
        self.assertEqual(run(*chain, *[street_at(number) for number in (1, 2, 3)])[3:],
                         [[5, 4, 1, 2, 0, 2], [7, 4, 2, 3, 0, 2], [9, 4, 4, 3, 0, 2]])

    def test_an_added_wide_street(self):
        self.assertEqual(run(street(1, 2, 9), street(2, 1, 2, 1), street_at(1), street_at(2))[2:],
                         [[9, 4, 1, 2, 0, 1], [2, 4, 2, 1, 1, 3]])

    def test_some_streets_added_and_some_not(self):
        # The odd corners 1 and 3 are paired by streets 3 and 4; street 5 is too long to be added.
        streets = [street(1, 2, 5, 1), street(2, 3, 5, 1), street(2, 1, 2), street(2, 3, 2), street(1, 3, 9, 1)]
        given = run(*streets, PLAN, *[street_at(number) for number in range(1, 6)])
        self.assertEqual(given[5], [46, 2, 42, 4, 2, 3, 4])
        self.assertEqual([one[5] for one in given[6:]], [2, 2, 2, 2, 2])
        given = run(*streets[2:], street_at(1), street_at(2), street_at(3), street(1, 3, 1), street_at(1), street_at(4))
        self.assertEqual([one[5] for one in given if len(one) > 1], [2, 2, 2, 1, 1])

    def test_a_round_that_is_not_connected(self):
        streets = [street(1, 2, 5), street(3, 4, 7), street(4, 3, 9, 1)]
        self.assertEqual(run(*streets, *[street_at(number) for number in (1, 2, 3)])[3:],
                         [[5, 4, 1, 2, 0, 1], [7, 4, 3, 4, 0, 1], [9, 4, 4, 3, 1, 2]])

    def test_before_and_after_it_is_joined(self):
        given = run(street(1, 2, 5), street_at(1), street(3, 4, 7), street_at(1), street_at(2), street(2, 3, 1),
                    street_at(1), street_at(2), street_at(3))
        self.assertEqual([one[5] for one in given if len(one) > 1], [2, 1, 1, 2, 2, 2])

    def test_the_refusals(self):
        self.assertEqual(run(street(1, 2, 5, 1), *[street_at(number) for number in
                                                   (0, 21, -1, LEAST, GREATEST, 2, 20, 1)])[1:],
                         [[-1], [-1], [-1], [-1], [-1], [-4], [-4], [5, 4, 1, 2, 1, 2]])

    def test_the_twentieth(self):
        self.assertEqual(last(*[street(1, 2, number) for number in range(1, 21)], street_at(20)), [20, 4, 1, 2, 0, 1])

    def test_nothing_changes(self):
        given = run(street(1, 2, 5), PLAN, COUNTS, street_at(1), street_at(2), street_at(0), PLAN, COUNTS)
        self.assertEqual(given[1:3], given[6:])


class PointAt(unittest.TestCase):
    def test_what_was_told(self):
        given = run(street(1, 2, 5), street(2, 1, 7), point(2, 1, 7), point(1, 0, 0), point(2, 0, 3), point_at(1),
                    point_at(2), point_at(3))
        self.assertEqual(given[5:], [[2, 2, 1, 7], [1, 2, 0, 0], [2, 2, 0, 3]])

    def test_from_the_first_corner_whichever_way_it_is_walked(self):
        self.assertEqual(last(begin(2, 2), street(1, 2, 9), point(1, 1, 2), point_at(1)), [1, 2, 1, 2])

    def test_the_refusals(self):
        self.assertEqual(run(street(1, 2, 5), point(1, 1, 4), *[point_at(number) for number in
                                                                (0, 61, -1, LEAST, GREATEST, 2, 60, 1)])[2:],
                         [[-1], [-1], [-1], [-1], [-1], [-4], [-4], [1, 2, 1, 4]])

    def test_the_sixtieth(self):
        self.assertEqual(last(street(1, 2, 99), *[point(1, number % 2, number) for number in range(1, 61)], point_at(60)),
                         [1, 2, 0, 60])

    def test_a_round_that_is_not_connected(self):
        self.assertEqual(last(street(3, 4, 5), point(1, 0, 1), point_at(1)), [1, 2, 0, 1])

    def test_nothing_changes(self):
        given = run(street(1, 2, 5), point(1, 0, 1), COUNTS, point_at(1), point_at(2), point_at(0), COUNTS, point(1, 0, 2))
        self.assertEqual([given[2], [2]], given[6:])


class Counts(unittest.TestCase):
    def test_at_a_lines_beginning(self):
        self.assertEqual(run(COUNTS), [[4, 7, 1, 0, 0, 0, 0, 0, 1]])

    def test_call_by_call(self):
        calls = [begin(9, 3), street(3, 4, 5), street(4, 5, 5), point(1, 0, 0), point(1, 0, 0), point(2, 1, 1),
                 forward(1, 2, 0, 1), hold(3, 0, 1), item(1, 4), item(2, 5), item(3, 6), item(3, 7), done(6), cancel(1),
                 street(1, 2, 1), street(2, 3, 1)]
        seen = run(*[one for call in calls for one in (call, COUNTS)])[1::2]
        self.assertEqual(seen, [[9, 7] + numbers for numbers in (
            [3, 0, 0, 0, 0, 0, 1],
            [3, 1, 0, 0, 0, 0, 1],
            [3, 2, 0, 0, 0, 0, 1],
            [3, 2, 1, 0, 0, 0, 1],
            [3, 2, 2, 0, 0, 0, 1],
            [3, 2, 3, 0, 0, 0, 1],
            [3, 2, 3, 1, 0, 0, 1],
            [3, 2, 3, 2, 0, 0, 1],
            [3, 2, 3, 2, 1, 0, 1],
            [3, 2, 3, 2, 2, 0, 1],
            [3, 2, 3, 2, 3, 0, 1],
            [3, 2, 3, 2, 4, 0, 1],
            [3, 2, 3, 2, 4, 6, 1],
            [3, 2, 3, 1, 4, 6, 1],
            [3, 3, 3, 1, 4, 6, 0],
            [3, 4, 3, 1, 4, 6, 1])])

    def test_delivered_and_returned_items_are_still_there(self):
        self.assertEqual(last(street(1, 2, 1), point(1, 0, 0), point(1, 0, 1), item(1, 0), done(3), forward(1, 2, 0, 9),
                              forward(2, 1, 0, 9), item(1, 0), done(4), COUNTS), [4, 7, 1, 1, 2, 2, 2, 4, 1])

    def test_connected_is_by_the_depot(self):
        self.assertEqual(run(street(2, 3, 1), COUNTS, begin(4, 2), street(2, 3, 1), COUNTS)[1::3],
                         [[4, 7, 1, 1, 0, 0, 0, 0, 0], [4, 7, 2, 1, 0, 0, 0, 0, 1]])
