"""walk: the streets that it takes, their direction, and what the steps serve."""

import unittest

from tests.helper import WALK, begin, last, run, street


def steps(answer):
    """The walk's steps as tuples, once its form is seen to be right."""
    if answer[0] * 3 != answer[1] or len(answer) != 2 + answer[1]:
        raise ValueError("not the form of a walk")
    return [tuple(answer[at:at + 3]) for at in range(2, len(answer), 3)]


def walk(*calls):
    return steps(last(*calls, WALK))


class Walk(unittest.TestCase):
    def test_a_ring(self):
        triangle = [street(1, 2, 5), street(2, 3, 7), street(3, 1, 9)]
        self.assertEqual(walk(*triangle), [(1, 0, 0), (2, 0, 0), (3, 0, 0)])
        self.assertEqual(walk(begin(3, 3), *triangle), [(2, 1, 0), (1, 1, 0), (3, 1, 0)])

    def test_a_dead_end(self):
        self.assertEqual(walk(street(1, 2, 10)), [(1, 0, 0), (1, 1, 3)])

    def test_from_the_second_corner(self):
        self.assertEqual(walk(street(2, 1, 10)), [(1, 1, 0), (1, 0, 3)])
        self.assertEqual(walk(begin(2, 2), street(1, 2, 10)), [(1, 1, 0), (1, 0, 3)])

    def test_a_wide_street(self):
        self.assertEqual(walk(street(1, 2, 10, 1)), [(1, 0, 1), (1, 1, 2)])
        self.assertEqual(walk(begin(2, 2), street(1, 2, 10, 1)), [(1, 1, 1), (1, 0, 2)])

    def test_a_wide_street_walked_a_third_time(self):
        streets = [street(1, 2, 9), street(2, 1, 2, 1)]
        self.assertEqual(walk(*streets), [(1, 0, 0), (2, 0, 1), (2, 1, 2), (2, 0, 3)])

    def test_a_wide_street_among_narrow_ones(self):
        streets = [street(1, 2, 3, 1), street(1, 2, 4), street(1, 2, 5)]
        self.assertEqual(walk(*streets), [(1, 0, 1), (1, 1, 2), (2, 0, 0), (3, 1, 0)])
        streets = [street(1, 2, 3), street(1, 2, 4, 1), street(1, 2, 5)]
        self.assertEqual(walk(*streets), [(1, 0, 0), (2, 1, 1), (2, 0, 2), (3, 1, 0)])

    def test_both_sides_of_a_wide_street_in_one_direction(self):
        streets = [street(2, 3, 1), street(2, 4, 1), street(1, 2, 10, 1), street(3, 1, 1), street(4, 1, 1)]
        self.assertEqual(walk(*streets), [(3, 0, 1), (1, 0, 0), (4, 0, 0), (3, 0, 2), (2, 0, 0), (5, 0, 0)])

    def test_an_added_street_is_walked_again_at_the_end(self):
        streets = [street(1, 2, 1), street(2, 3, 1, 1), street(4, 3, 1), street(1, 4, 1), street(2, 4, 1),
                   street(1, 3, 1)]
        self.assertEqual(walk(*streets), [(1, 0, 0), (2, 0, 1), (2, 1, 2), (5, 0, 0), (3, 0, 0), (6, 1, 0),
                                          (4, 0, 0), (4, 1, 3)])

    def test_several_streets_between_two_corners(self):
        streets = [street(1, 2, 4), street(2, 1, 4), street(1, 2, 6)]
        self.assertEqual(walk(*streets), [(1, 0, 0), (1, 1, 3), (2, 1, 0), (3, 1, 0)])

    def test_the_least_street_is_not_taken_if_it_leaves_others_behind(self):
        streets = [street(1, 2, 10, 1), street(2, 3, 5), street(2, 3, 6)]
        self.assertEqual(walk(*streets), [(1, 0, 1), (2, 0, 0), (3, 1, 0), (1, 1, 2)])

    def test_back_at_the_depot_it_is_not_left_too_soon(self):
        streets = [street(1, 2, 1), street(2, 1, 1), street(1, 3, 1), street(3, 1, 1), street(2, 4, 1), street(4, 2, 1)]
        self.assertEqual(walk(*streets), [(1, 0, 0), (5, 0, 0), (6, 0, 0), (2, 0, 0), (3, 0, 0), (4, 0, 0)])

    def test_the_least_street_is_taken_if_all_is_left_in_reach(self):
        # At corner 2 street 2 leads back to the depot, and streets 3 and 4 lead on from there.
        streets = [street(1, 2, 1), street(1, 2, 1), street(2, 3, 1), street(1, 3, 1)]
        self.assertEqual(walk(*streets), [(1, 0, 0), (1, 1, 3), (2, 0, 0), (3, 0, 0), (4, 1, 0)])

    def test_no_street(self):
        self.assertEqual(run(begin(10, 4), WALK)[1], [0, 0])

    def test_the_longest_walk(self):
        chain = [street(corner, corner + 1, 1, 1) for corner in range(1, 10)]
        more = [street(1, 2, 1, 1)] * 11
        taken = walk(begin(10, 10), *chain, *more)
        self.assertEqual(len(taken), 40)
        self.assertEqual(taken[:9], [(number, 1, 1) for number in range(9, 0, -1)])
        self.assertEqual(taken[-8:], [(number, 0, 2) for number in range(2, 10)])
