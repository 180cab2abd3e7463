"""begin, street and point: what they answer, their refusals, and that a refusal changes nothing."""

import unittest

from tests.helper import (
    COUNTS, GREATEST, LEAST, ODD, ORDER, PLAN, WALK, begin, cancel, done, forward, goes_to, hold, item, item_at, judge,
    last, orders, point, point_at, run, street, street_at, tour, way)

# A round with something of everything, to see that it stays.
SOME = [begin(3, 2), street(1, 2, 5), street(2, 3, 6, 1), point(1, 0, 2), point(2, 1, 6), hold(2, 1, 2),
        item(1, 3), done(2)]
ASKED = [PLAN, WALK, ORDER, ODD, way(1, 3), judge(1, 1, 2, 2), COUNTS, item_at(1), orders(2), tour(4)]


class Begin(unittest.TestCase):
    def test_the_edges_of_its_numbers(self):
        self.assertEqual(run(begin(1, 1), begin(10, 1), begin(10, 10), begin(4, 4)), [[0]] * 4)
        for n, depot in ((0, 1), (11, 1), (-1, 1), (0, 0), (3, 0), (3, 4), (1, 2), (10, 11), (11, 11),
                         (LEAST, 1), (GREATEST, 1), (3, LEAST), (3, GREATEST), (GREATEST, GREATEST)):
            with self.subTest(n=n, depot=depot):
                self.assertEqual(last(begin(n, depot)), [-1])

    def test_its_corners_and_depot(self):
        self.assertEqual(run(begin(10, 7), street(10, 9, 1), way(10, 9), way(11, 1), judge()),
                         [[0], [1], [1, 1, 1], [-1], [1, 2, 0, 7]])
        self.assertEqual(run(begin(1, 1), way(1, 1), way(1, 2), street(1, 1, 5), PLAN, WALK, judge()),
                         [[0], [0, 0], [-1], [-6], [0, 2, 0, 0, 0], [0, 0], [2, 2, 0, 1]])

    def test_all_is_new(self):
        given = run(*SOME, begin(4, 1), PLAN, ORDER, judge(1), point(1, 0, 0), street(1, 2, 9), point(1, 0, 0),
                    hold(2, 0, 0), hold(1, 0, 0))
        self.assertEqual(given[len(SOME):], [[0], [0, 2, 0, 0, 0], [0, 0], [-2], [-4], [1], [1], [-4], [1]])

    def test_nothing_of_what_was_before_is_left(self):
        before = SOME + [forward(1, 2, 0, 9), item(1, 1), item(2, 2), done(7), item(1, 8)]
        asked = [COUNTS, item_at(1), street_at(1), point_at(1), orders(1), cancel(1), goes_to(1, 1), tour(9)]
        given = run(*before, begin(5, 2), *asked)[len(before):]
        self.assertEqual(given, [[0], [5, 7, 2, 0, 0, 0, 0, 0, 1], [-4], [-4], [-4], [-4], [-4], [-4], [0, 0]])

    def test_a_line_after_begin_is_as_a_new_one(self):
        line = SOME[1:-2] + [forward(1, 2, 1, 3), orders(1), orders(2), goes_to(1, 1), goes_to(2, 2), item(1, 1), tour(1),
                           tour(3), done(0), done(3), item_at(1), cancel(2), hold(1, 0, 0), street_at(2), point_at(2),
                           COUNTS]
        for first in ([begin(3, 2)], [begin(10, 7), street(7, 8, 3), point(1, 0, 0), hold(1, 0, 9), item(1, 0), done(9)]):
            with self.subTest(first=first):
                self.assertEqual(run(*first, begin(3, 2), *line)[len(first):], run(begin(3, 2), *line))

    def test_the_last_day_done_is_0_again(self):
        self.assertEqual(run(done(9), done(8), begin(4, 1), done(0), done(8), done(0)),
                         [[0, 2, 0, 0], [-6], [0], [0, 2, 0, 0], [0, 2, 0, 0], [-6]])

    def test_a_refusal_changes_nothing(self):
        before = run(*SOME, *ASKED)
        after = run(*SOME, begin(0, 1), begin(2, 3), begin(11, 2), *ASKED, hold(1, 0, 0))
        self.assertEqual(after[len(SOME) + 3:-1], before[len(SOME):])
        self.assertEqual(after[-1], [2])


class Street(unittest.TestCase):
    def test_numbers_in_the_order_of_telling(self):
        self.assertEqual(run(street(1, 2, 1), street(2, 1, 1000000, 1), street(1, 2, 1)), [[1], [2], [3]])

    def test_a_number_out_of_range(self):
        for numbers in ((0, 2, 5, 0), (5, 2, 5, 0), (1, 0, 5, 0), (1, 5, 5, 0), (1, 2, 0, 0), (1, 2, 1000001, 0),
                        (1, 2, -1, 0), (1, 2, 5, -1), (1, 2, 5, 2)):
            with self.subTest(numbers=numbers):
                self.assertEqual(last(street(*numbers)), [-1])

    def test_numbers_at_both_ends(self):
        for place in range(4):
            for far in (LEAST, GREATEST):
                numbers = [1, 2, 5, 0]
                numbers[place] = far
                with self.subTest(numbers=numbers):
                    self.assertEqual(last(street(*numbers)), [-1])

    def test_the_same_corner_twice(self):
        self.assertEqual(run(street(2, 2, 5), street(2, 2, 0), street(2, 2, 5, 2), street(5, 5, 5)),
                         [[-6], [-1], [-1], [-1]])

    def test_twenty_and_no_more(self):
        twenty = [street(1, 2, 5)] * 20
        given = run(*twenty, street(1, 2, 5), street(1, 1, 5), street(1, 2, 0), judge(20), judge(21))
        self.assertEqual(given, [[number] for number in range(1, 21)] + [[-8], [-6], [-1], [1, 2, 5, 2], [-2]])

    def test_a_refusal_changes_nothing(self):
        before = run(*SOME, *ASKED)
        after = run(*SOME, street(1, 1, 5), street(1, 4, 5), street(1, 2, 0), street(1, 2, 5, 3), *ASKED,
                    street(1, 2, 5))
        self.assertEqual(after[len(SOME) + 4:-1], before[len(SOME):])
        self.assertEqual(after[-1], [3])


class Point(unittest.TestCase):
    def test_numbers_in_the_order_of_telling(self):
        self.assertEqual(run(street(1, 2, 5), point(1, 0, 0), point(1, 1, 5), point(1, 1, 5))[1:], [[1], [2], [3]])

    def test_a_number_out_of_range(self):
        for numbers in ((0, 0, 0), (21, 0, 0), (-1, 0, 0), (1, -1, 0), (1, 2, 0), (1, 0, -1), (1, 0, 6),
                        (LEAST, 0, 0), (GREATEST, 0, 0), (1, LEAST, 0), (1, GREATEST, 0), (1, 0, LEAST),
                        (1, 0, GREATEST)):
            with self.subTest(numbers=numbers):
                self.assertEqual(last(street(1, 2, 5), point(*numbers)), [-1])

    def test_a_street_that_is_not_there(self):
        self.assertEqual(run(street(1, 2, 5), point(2, 0, 0), point(20, 1, 5), point(2, 0, -1), point(20, 1, GREATEST)),
                         [[1], [-4], [-4], [-4], [-4]])

    def test_the_side_is_looked_at_before_the_street(self):
        self.assertEqual(run(point(1, 2, 0), point(1, 1, 0), point(21, 1, 0)), [[-1], [-4], [-1]])

    def test_how_far_by_the_street_of_the_point(self):
        self.assertEqual(run(street(1, 2, 5), street(1, 2, 1000000), point(1, 0, 6), point(2, 0, 6),
                             point(2, 0, 1000000), point(2, 0, 1000001))[2:], [[-1], [1], [2], [-1]])

    def test_sixty_and_no_more(self):
        sixty = [point(1, number % 2, number % 6) for number in range(60)]
        given = run(street(1, 2, 5), *sixty, point(1, 0, 0), point(1, 0, 6), point(2, 0, 0), point(1, 2, 0),
                    hold(60, 0, 0), hold(61, 0, 0), ORDER)
        self.assertEqual(given[1:61], [[number] for number in range(1, 61)])
        self.assertEqual(given[61:67], [[-8], [-1], [-4], [-1], [1], [-1]])
        self.assertEqual(given[67][:2], [60, 120])

    def test_a_refusal_changes_nothing(self):
        before = run(*SOME, *ASKED)
        after = run(*SOME, point(0, 0, 0), point(3, 0, 0), point(1, 2, 0), point(1, 0, 6), *ASKED, point(1, 0, 5))
        self.assertEqual(after[len(SOME) + 4:-1], before[len(SOME):])
        self.assertEqual(after[-1], [3])
