"""item, tour, done and item at: items day by day till they are delivered or returned."""

import unittest

from tests.helper import (
    COUNTS, GREATEST, LEAST, ORDER, begin, cancel, done, forward, goes_to, hold, item, item_at, last, orders, point, run,
    street, tour)

# The round's order is 8, 7, .., 1: what goes by places is told apart from what goes by points' numbers.
EIGHT = [street(1, 2, 9)] + [point(1, 0, 9 - number) for number in range(1, 9)]
NO_ROUND = street(3, 4, 1)
JOINED = street(2, 3, 1)


def told(*calls):
    return run(*EIGHT, *calls)[len(EIGHT):]


def pairs(answer):
    """A tour's items and points as tuples, once its form is seen to be right."""
    if answer[0] * 2 != answer[1] or len(answer) != 2 + answer[1]:
        raise ValueError("not the form of a tour")
    return [tuple(answer[at:at + 2]) for at in range(2, len(answer), 2)]


def tour_of(day, *calls):
    return pairs(last(*EIGHT, *calls, tour(day)))


class Item(unittest.TestCase):
    def test_numbers_in_the_order_of_telling(self):
        self.assertEqual(told(item(8, 0), item(1, 100000), item(1, 0)), [[1], [2], [3]])

    def test_a_day_out_of_range(self):
        for day in (-1, 100001, LEAST, GREATEST):
            with self.subTest(day=day):
                self.assertEqual(told(item(1, day), item(9, day), item(0, day)), [[-1], [-1], [-1]])

    def test_the_point(self):
        self.assertEqual(told(*[item(number, 1) for number in (0, 61, -1, LEAST, GREATEST, 9, 60, 8)]),
                         [[-1], [-1], [-1], [-1], [-1], [-4], [-4], [1]])

    def test_two_hundred_and_no_more(self):
        given = told(*[item(number % 8 + 1, number) for number in range(200)], item(1, 1), item(9, 1), item(0, 1),
                     item(1, -1), item_at(200), COUNTS)
        self.assertEqual(given[:200], [[number] for number in range(1, 201)])
        self.assertEqual(given[200:], [[-8], [-4], [-1], [-1], [0, 4, 8, 199, 0, 0], [4, 7, 1, 1, 8, 0, 200, 0, 1]])

    def test_no_more_though_all_are_delivered(self):
        given = told(*[item(1, 0)] * 200, done(0), item(1, 1))
        self.assertEqual(given[200:], [[200, 2, 0, 0], [-8]])

    def test_a_refusal_changes_nothing(self):
        given = told(item(1, 1), COUNTS, item(1, -1), item(0, 1), item(9, 1), COUNTS, item(2, 2), item_at(2))
        self.assertEqual(given[1], given[5])
        self.assertEqual(given[6:], [[2], [0, 4, 2, 2, 0, 0]])

    def test_for_a_day_that_is_done(self):
        self.assertEqual(told(done(9), item(1, 3), tour(2), tour(3), done(9), item_at(1))[1:],
                         [[1], [0, 0], [1, 2, 1, 1], [1, 2, 0, 0], [1, 4, 1, 3, 1, 9]])


class ItemAt(unittest.TestCase):
    def test_one_that_waits(self):
        self.assertEqual(told(item(7, 5), item(3, 100000), item_at(1), item_at(2))[2:],
                         [[0, 4, 7, 5, 0, 0], [0, 4, 3, 100000, 0, 0]])

    def test_the_refusals(self):
        self.assertEqual(told(item(1, 1), *[item_at(number) for number in (0, 201, -1, LEAST, GREATEST, 2, 200, 1)])[1:],
                         [[-1], [-1], [-1], [-1], [-1], [-4], [-4], [0, 4, 1, 1, 0, 0]])

    def test_one_delivered_at_its_own_point(self):
        self.assertEqual(last(*EIGHT, item(7, 5), done(6), item_at(1)), [1, 4, 7, 5, 7, 6])

    def test_one_delivered_elsewhere(self):
        self.assertEqual(last(*EIGHT, item(7, 5), forward(7, 3, 0, 9), forward(3, 4, 0, 9), done(6), item_at(1)),
                         [1, 4, 7, 5, 4, 6])

    def test_one_returned(self):
        self.assertEqual(last(*EIGHT, item(7, 5), forward(7, 3, 0, 9), forward(3, 7, 0, 9), done(6), item_at(1)),
                         [2, 4, 7, 5, 0, 6])

    def test_on_day_0(self):
        self.assertEqual(told(item(7, 0), item(1, 0), forward(1, 2, 0, 0), forward(2, 1, 0, 0), done(0), item_at(1),
                              item_at(2))[4:], [[1, 2, 0, 1], [1, 4, 7, 0, 7, 0], [2, 4, 1, 0, 0, 0]])


class Tour(unittest.TestCase):
    def test_no_item(self):
        self.assertEqual(told(tour(0), tour(100000)), [[0, 0], [0, 0]])

    def test_by_the_rounds_order(self):
        self.assertEqual(tour_of(1, item(1, 1), item(5, 1), item(3, 1), item(8, 1)), [(4, 8), (2, 5), (3, 3), (1, 1)])

    def test_of_one_point_by_items_numbers(self):
        self.assertEqual(tour_of(1, item(1, 1), item(5, 1), item(1, 0), item(5, 0), item(1, 1)),
                         [(2, 5), (4, 5), (1, 1), (3, 1), (5, 1)])

    def test_by_the_point_where_it_is_delivered(self):
        self.assertEqual(tour_of(1, item(8, 1), item(5, 1), item(1, 1), item(6, 1), forward(8, 1, 0, 9),
                                 forward(6, 5, 1, 1)), [(2, 5), (4, 5), (1, 1), (3, 1)])

    def test_points_at_one_place_first_side_first(self):
        points = [point(1, 1, 4), point(1, 0, 4), point(1, 0, 4)]
        self.assertEqual(pairs(last(street(1, 2, 9), *points, item(1, 0), item(3, 0), item(2, 0), tour(0))),
                         [(3, 2), (2, 3), (1, 1)])

    def test_by_the_walk_of_wide_streets(self):
        points = [point(1, 1, 1), point(1, 0, 9), point(1, 1, 8), point(1, 0, 2)]
        items = [item(number, 0) for number in (1, 2, 3, 4)]
        self.assertEqual(pairs(last(street(1, 2, 9, 1), *points, *items, tour(0))), [(4, 4), (2, 2), (3, 3), (1, 1)])

    def test_it_follows_a_street_told_later(self):
        given = told(item(1, 0), item(8, 0), tour(0), begin(2, 2), *EIGHT, item(1, 0), item(8, 0), tour(0))
        self.assertEqual([pairs(given[2]), pairs(given[-1])], [[(2, 8), (1, 1)], [(1, 1), (2, 8)]])
        streets = [street(1, 2, 5), street(2, 3, 5)]
        asked = [point(1, 0, 1), point(2, 0, 1), item(2, 0), item(1, 0), tour(0)]
        self.assertEqual(run(*streets, *asked)[-1], [2, 4, 2, 1, 1, 2])
        self.assertEqual(run(begin(4, 3), *streets, *asked)[-1], [2, 4, 1, 2, 2, 1])

    def test_items_that_are_not_there_yet(self):
        given = told(item(1, 5), item(2, 6), *[tour(day) for day in (0, 4, 5, 6, 100000)])
        self.assertEqual([pairs(one) for one in given[2:]], [[], [], [(1, 1)], [(2, 2), (1, 1)], [(2, 2), (1, 1)]])

    def test_held_ones_rings_and_too_far_are_not_on_it(self):
        held = [hold(1, 0, 9)]
        ring = [forward(2, 3, 0, 9), forward(3, 2, 0, 9)]
        self.assertEqual(tour_of(1, *[item(number, 1) for number in range(1, 9)], *held, *ring),
                         [(8, 8), (7, 7), (6, 6), (5, 5), (4, 4)])
        far = [forward(number, number + 1, 0, 9) for number in range(1, 8)]
        self.assertEqual(tour_of(1, *[item(number, 1) for number in range(1, 9)], *far),
                         [(3, 8), (4, 8), (5, 8), (6, 8), (7, 8), (8, 8)])

    def test_held_after_being_sent_on(self):
        self.assertEqual(tour_of(1, item(1, 1), item(2, 1), forward(1, 2, 0, 9), hold(2, 1, 1)), [])

    def test_orders_by_the_tours_day_not_by_the_items(self):
        given = told(item(1, 2), hold(1, 2, 3), forward(1, 5, 5, 5), *[tour(day) for day in range(1, 7)])
        self.assertEqual([pairs(one) for one in given[3:]], [[], [], [], [(1, 1)], [(1, 5)], [(1, 1)]])

    def test_delivered_and_returned_ones_are_not_on_it(self):
        given = told(item(1, 1), item(2, 1), item(3, 3), forward(2, 4, 0, 1), forward(4, 2, 0, 1), done(1), tour(1),
                     tour(2), tour(3))
        self.assertEqual([pairs(one) for one in given[6:]], [[], [], [(3, 3)]])

    def test_of_a_day_before_the_last_day_done(self):
        self.assertEqual(told(item(1, 1), hold(1, 5, 5), done(5), tour(4))[2:], [[0, 2, 1, 0], [1, 2, 1, 1]])

    def test_a_day_out_of_range(self):
        for day in (-1, 100001, LEAST, GREATEST):
            with self.subTest(day=day):
                self.assertEqual(told(tour(day), NO_ROUND, tour(day)), [[-1], [2], [-1]])

    def test_a_round_that_is_not_connected(self):
        self.assertEqual(told(item(1, 1), NO_ROUND, tour(1), tour(0), JOINED, tour(1))[2:],
                         [[-7], [-7], [3], [1, 2, 1, 1]])
        self.assertEqual(run(street(2, 3, 1), tour(0))[1], [-7])

    def test_nothing_changes(self):
        calls = [item(1, 1), item(2, 1), forward(2, 3, 0, 9), forward(3, 2, 0, 9), done(0)]
        seen = [item_at(1), item_at(2), COUNTS, orders(2), ORDER, tour(1)]
        given = told(*calls, *seen, tour(1), tour(5), tour(-1), *seen, done(0))
        self.assertEqual(given[5:11], given[14:20])
        self.assertEqual(given[20], [0, 2, 2, 0])


class Done(unittest.TestCase):
    def test_no_item(self):
        self.assertEqual(told(done(0), COUNTS, done(100000), COUNTS),
                         [[0, 2, 0, 0], [4, 7, 1, 1, 8, 0, 0, 0, 1], [0, 2, 0, 0], [4, 7, 1, 1, 8, 0, 0, 100000, 1]])

    def test_the_days_tour_is_delivered(self):
        given = told(item(1, 1), item(5, 2), item(3, 3), tour(2), done(2), item_at(1), item_at(2), item_at(3), tour(2))
        self.assertEqual(given[3:], [[2, 4, 2, 5, 1, 1], [2, 2, 1, 0], [1, 4, 1, 1, 1, 2], [1, 4, 5, 2, 5, 2],
                                     [0, 4, 3, 3, 0, 0], [0, 0]])

    def test_held_ones_wait_till_the_hold_is_over(self):
        given = told(item(1, 1), hold(1, 2, 4), done(2), item_at(1), done(4), item_at(1), done(5), item_at(1))
        self.assertEqual(given[2:], [[0, 2, 1, 0], [0, 4, 1, 1, 0, 0], [0, 2, 1, 0], [0, 4, 1, 1, 0, 0],
                                     [1, 2, 0, 0], [1, 4, 1, 1, 1, 5]])

    def test_held_after_being_sent_on_waits_for_its_own_point(self):
        given = told(item(1, 1), forward(1, 2, 1, 2), hold(2, 1, 2), done(2), item_at(1), done(3), item_at(1))
        self.assertEqual(given[3:], [[0, 2, 1, 0], [0, 4, 1, 1, 0, 0], [1, 2, 0, 0], [1, 4, 1, 1, 1, 3]])

    def test_rings_and_too_far_are_returned(self):
        ring = [forward(7, 8, 0, 9), forward(8, 7, 0, 9)]
        given = told(item(7, 1), item(8, 2), item(8, 3), *ring, done(2), item_at(1), item_at(2), item_at(3))
        self.assertEqual(given[5:], [[0, 2, 1, 2], [2, 4, 7, 1, 0, 2], [2, 4, 8, 2, 0, 2], [0, 4, 8, 3, 0, 0]])
        far = [forward(number, number + 1, 0, 9) for number in range(1, 7)]
        given = told(item(1, 1), item(2, 1), *far, done(1), item_at(1), item_at(2))
        self.assertEqual(given[8:], [[1, 2, 0, 1], [2, 4, 1, 1, 0, 1], [1, 4, 2, 1, 7, 1]])

    def test_a_ring_that_is_not_the_items_own_point(self):
        given = told(item(1, 1), forward(1, 2, 0, 9), forward(2, 3, 0, 9), forward(3, 2, 0, 9), done(1), item_at(1))
        self.assertEqual(given[4:], [[0, 2, 0, 1], [2, 4, 1, 1, 0, 1]])

    def test_what_is_returned_stays_returned(self):
        given = told(item(1, 1), forward(1, 2, 0, 9), forward(2, 1, 0, 9), done(1), cancel(1), cancel(2), tour(2), done(2),
                     item_at(1))
        self.assertEqual(given[6:], [[0, 0], [0, 2, 0, 1], [2, 4, 1, 1, 0, 1]])

    def test_what_is_delivered_stays_delivered(self):
        given = told(item(1, 1), done(1), forward(1, 2, 0, 9), forward(2, 1, 0, 9), done(2), item_at(1), cancel(1),
                     done(3), item_at(1))
        self.assertEqual([given[1], given[4], given[5], given[7], given[8]],
                         [[1, 2, 0, 0], [0, 2, 0, 0], [1, 4, 1, 1, 1, 1], [0, 2, 0, 0], [1, 4, 1, 1, 1, 1]])

    def test_how_many_wait_and_how_many_of_all_have_been_returned(self):
        ring = [forward(7, 8, 2, 3), forward(8, 7, 2, 3)]
        items = [item(7, 2), item(8, 3), item(1, 1), item(2, 2), item(3, 9), item(4, 1)]
        given = told(*ring, hold(4, 0, 4), *items, done(1), done(2), done(3), done(8), done(9))
        self.assertEqual(given[9:], [[1, 2, 5, 0], [1, 2, 3, 1], [0, 2, 2, 2], [1, 2, 1, 2], [1, 2, 0, 2]])

    def test_again_on_the_same_day(self):
        given = told(item(1, 4), done(4), done(4), item(2, 4), done(4), item_at(1), item_at(2))
        self.assertEqual(given[1:], [[1, 2, 0, 0], [0, 2, 0, 0], [2], [1, 2, 0, 0], [1, 4, 1, 4, 1, 4],
                                     [1, 4, 2, 4, 2, 4]])

    def test_on_a_day_before_the_last_day_done(self):
        given = told(done(4), item(1, 1), done(3), done(0), item_at(1), COUNTS, done(4), done(3), done(5), done(4))
        self.assertEqual(given[2:], [[-6], [-6], [0, 4, 1, 1, 0, 0], [4, 7, 1, 1, 8, 0, 1, 4, 1], [1, 2, 0, 0], [-6],
                                     [0, 2, 0, 0], [-6]])

    def test_a_day_out_of_range(self):
        for day in (-1, 100001, LEAST, GREATEST):
            with self.subTest(day=day):
                self.assertEqual(told(done(5), done(day), NO_ROUND, done(day))[1:], [[-1], [2], [-1]])

    def test_a_round_that_is_not_connected(self):
        self.assertEqual(told(item(1, 1), NO_ROUND, done(1), item_at(1), JOINED, done(1))[2:],
                         [[-7], [0, 4, 1, 1, 0, 0], [3], [1, 2, 0, 0]])

    def test_not_connected_is_told_before_an_earlier_day(self):
        self.assertEqual(told(done(5), NO_ROUND, done(4), done(5), JOINED, done(4))[2:], [[-7], [-7], [3], [-6]])

    def test_a_refusal_changes_nothing(self):
        calls = [item(1, 1), item(2, 1), forward(2, 3, 0, 9), forward(3, 2, 0, 9), item(4, 9), done(0), hold(4, 9, 9)]
        seen = [item_at(1), item_at(2), item_at(3), COUNTS, orders(2), goes_to(1, 2)]
        wrong = [done(-1), done(100001), NO_ROUND, done(1), done(9), JOINED, begin(0, 0)]
        given = told(*calls, *seen, *wrong, *seen, done(1))
        before, after = given[7:13], given[20:26]
        before[3][3] += 2
        self.assertEqual(after, before)
        self.assertEqual([given[13], given[14], given[16], given[17]], [[-1], [-1], [-7], [-7]])
        self.assertEqual(given[26], [1, 2, 1, 1])

    def test_a_refused_earlier_day_changes_nothing(self):
        calls = [done(5), item(1, 1), item(2, 1), forward(2, 3, 0, 9), forward(3, 2, 0, 9)]
        seen = [item_at(1), item_at(2), COUNTS, tour(5)]
        given = told(*calls, *seen, done(4), done(1), *seen)
        self.assertEqual(given[9:11], [[-6], [-6]])
        self.assertEqual(given[5:9], given[11:])

    def test_sixty_days(self):
        items = [item(number % 8 + 1, number) for number in range(60)]
        days = [done(day) for day in range(60)]
        self.assertEqual(told(*items, *days)[60:], [[1, 2, 59 - day, 0] for day in range(60)])
