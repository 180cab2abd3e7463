"""How calls are read and answers given back, and what is there at a line's beginning."""

import contextlib
import io
import unittest

from carrierround.house import answers
from tests.helper import (
    COUNTS, ODD, ORDER, PLAN, WALK, begin, cancel, done, forward, goes_to, hold, item, item_at, judge, last, orders, point,
    point_at, run, street, street_at, tour, way)


class Beginning(unittest.TestCase):
    def test_four_corners_and_no_more(self):
        self.assertEqual(run(street(1, 4, 1), street(4, 3, 1), street(2, 5, 1), street(5, 2, 1)),
                         [[1], [2], [-1], [-1]])

    def test_depot_is_1(self):
        self.assertEqual(last(judge()), [2, 2, 0, 1])
        self.assertEqual(run(street(2, 1, 7), WALK)[-1], [2, 6, 1, 1, 0, 1, 0, 3])

    def test_no_street_point_or_order(self):
        self.assertEqual(run(judge(1), point(1, 0, 0), hold(1, 0, 0), street(1, 2, 5), point(1, 0, 0), hold(1, 0, 0)),
                         [[-2], [-4], [-4], [1], [1], [1]])

    def test_everything_asked_of_a_new_round(self):
        self.assertEqual(run(PLAN, WALK, ORDER, ODD, way(3, 3), way(1, 2), judge()),
                         [[0, 2, 0, 0, 0], [0, 0], [0, 0], [0, 0], [0, 0], [-7], [2, 2, 0, 1]])

    def test_the_last_day_done_is_0_and_there_is_no_item(self):
        self.assertEqual(run(COUNTS, item_at(1), tour(0), done(0)), [[4, 7, 1, 0, 0, 0, 0, 0, 1], [-4], [0, 0],
                                                                    [0, 2, 0, 0]])


class Form(unittest.TestCase):
    def test_the_whole_list_given_back(self):
        calls = (begin(2, 1) + street(1, 2, 10) + point(1, 1, 4) + point(1, 0, 10) + PLAN + WALK + ORDER
                 + way(2, 1) + ODD + judge(1, 1) + judge() + forward(1, 2, 3, 5) + hold(2, 0, 0) + way(0, 1))
        self.assertEqual(answers(calls), [
            1, 0,
            1, 1,
            1, 1,
            1, 2,
            6, 20, 2, 10, 10, 1, 1,
            8, 2, 6, 1, 0, 0, 1, 1, 3,
            6, 2, 4, 1, 4, 2, 10,
            3, 10, 1, 1,
            4, 2, 2, 1, 2,
            4, 2, 2, 20, 1,
            4, 1, 2, 0, 1,
            1, 1,
            1, 2,
            1, -1])

    def test_the_whole_list_of_the_calls_by_days(self):
        calls = (street(1, 2, 10) + point(1, 1, 4) + point(1, 0, 10) + forward(1, 2, 3, 5) + hold(1, 7, 7) + cancel(2)
                 + item(1, 4) + goes_to(5, 1) + tour(5) + done(5) + item_at(1) + street_at(1) + point_at(1) + orders(1)
                 + hold(1, 8, 9) + orders(1) + COUNTS)
        self.assertEqual(answers(calls), [
            1, 1,
            1, 1,
            1, 2,
            1, 1,
            1, 2,
            1, 0,
            1, 1,
            4, 1, 2, 1, 2,
            4, 1, 2, 1, 2,
            4, 1, 2, 0, 0,
            6, 1, 4, 1, 4, 2, 5,
            6, 10, 4, 1, 2, 0, 2,
            4, 1, 2, 1, 4,
            6, 1, 4, 1, 2, 3, 5,
            1, 3,
            11, 2, 4, 1, 2, 3, 5, 4, 3, 0, 8, 9,
            9, 4, 7, 1, 1, 2, 2, 1, 5, 1])

    def test_rows_of_nothing_have_their_count(self):
        self.assertEqual(answers(PLAN), [5, 0, 2, 0, 0, 0])
        self.assertEqual(answers(WALK), [2, 0, 0])
        self.assertEqual(answers(ORDER), [2, 0, 0])
        self.assertEqual(answers(ODD), [2, 0, 0])
        self.assertEqual(answers(way(2, 2)), [2, 0, 0])
        self.assertEqual(answers(street(2, 3, 1) + judge(1)), [1, 1, 2, 0, 0])
        self.assertEqual(answers(tour(0)), [2, 0, 0])

    def test_orders_without_an_order_has_no_row(self):
        self.assertEqual(answers(street(1, 2, 3) + point(1, 0, 0) + orders(1)), [1, 1, 1, 1, 1, 0])

    def test_a_refusal_is_its_number_alone(self):
        self.assertEqual(answers(street(2, 3, 1) + PLAN + WALK + ORDER + ODD + way(1, 2) + judge(2) + begin(0, 0)),
                         [1, 1, 1, -7, 1, -7, 1, -7, 1, -7, 1, -7, 1, -2, 1, -1])
        self.assertEqual(answers(cancel(1) + item(1, 0) + goes_to(0, 1) + street(2, 3, 1) + tour(0) + done(0) + item_at(0)
                                 + street_at(2) + point_at(1) + orders(1)),
                         [1, -4, 1, -4, 1, -4, 1, 1, 1, -7, 1, -7, 1, -1, 1, -4, 1, -4, 1, -4])

    def test_a_list_of_whole_numbers(self):
        given = answers(street(1, 2, 3, 1) + point(1, 1, 3) + PLAN + WALK + ORDER + ODD + way(1, 2) + judge(1, 1)
                        + hold(1, 5, 5) + item(1, 0) + goes_to(0, 1) + tour(0) + done(0) + item_at(1) + street_at(1)
                        + point_at(1) + orders(1) + COUNTS + cancel(1))
        self.assertIs(type(given), list)
        self.assertEqual({type(number) for number in given}, {int})


class Reading(unittest.TestCase):
    def test_a_judge_row_is_read_to_its_end(self):
        self.assertEqual(run(street(1, 2, 3), judge(1, 1, 1), street(1, 2, 4), judge(), street(1, 2, 5), judge(3)),
                         [[1], [1, 2, 9, 2], [2], [1, 2, 0, 1], [3], [1, 2, 5, 2]])

    def test_a_refused_call_is_read_to_its_end(self):
        self.assertEqual(run(begin(0, 1), street(0, 0, 0, 0), point(0, 0, 0), way(0, 0), judge(3, 4, 5),
                             forward(0, 0, -1, 0), hold(0, 0, 0), street(1, 2, 3)),
                         [[-1], [-1], [-1], [-1], [-2], [-1], [-1], [1]])
        self.assertEqual(run(cancel(0), item(0, 0), goes_to(0, 0), tour(-1), done(-1), item_at(0), street_at(0),
                             point_at(0), orders(0), street(1, 2, 3), COUNTS),
                         [[-1]] * 9 + [[1], [4, 7, 1, 1, 0, 0, 0, 0, 1]])

    def test_400_calls_of_which_60_are_walk_and_order(self):
        calls = [street(1, 2, 3)] + [WALK, ORDER] * 30 + [PLAN] * 339
        given = run(*calls)
        self.assertEqual(len(given), 400)
        self.assertEqual(given[1:61], [[2, 6, 1, 0, 0, 1, 1, 3], [0, 0]] * 30)
        self.assertEqual(given[61:], [[6, 2, 3, 3, 1, 1]] * 339)

    def test_a_list_of_nearly_16000_numbers(self):
        given = run(street(1, 2, 3), *[judge(*[1] * 400)] * 39)
        self.assertEqual(given, [[1]] + [[2, 2, 1200, 1]] * 39)


class NothingKeptNothingChanged(unittest.TestCase):
    CALLS = (begin(3, 2) + street(1, 2, 5) + street(2, 3, 6, 1) + point(1, 0, 2) + point(2, 1, 6) + PLAN + WALK
             + ORDER + ODD + way(1, 3) + judge(1, 1, 2, 2) + forward(1, 2, 0, 9) + hold(1, 3, 3) + street(9, 9, 9, 9)
             + item(1, 2) + item(2, 8) + goes_to(2, 1) + tour(2) + done(2) + item_at(1) + street_at(1) + point_at(2)
             + orders(1) + cancel(1) + COUNTS + done(1))

    def test_what_is_handed_in_stays_as_it_was(self):
        calls = list(self.CALLS)
        answers(calls)
        self.assertEqual(calls, self.CALLS)

    def test_what_is_handed_in_is_not_changed_for_a_while_either(self):
        class Guarded(list):
            def refuse(self, *args):
                raise AssertionError("the list was changed")

            append = extend = insert = pop = remove = clear = reverse = sort = refuse
            __setitem__ = __delitem__ = __iadd__ = __imul__ = refuse

        self.assertEqual(answers(Guarded(self.CALLS)), answers(self.CALLS))

    def test_each_time_is_as_the_first(self):
        self.assertEqual(answers(self.CALLS), answers(self.CALLS))
        self.assertEqual(answers(street(1, 2, 3)), [1, 1])
        self.assertEqual(answers(judge(1)), [1, -2])
        self.assertEqual(answers(COUNTS), [9, 4, 7, 1, 0, 0, 0, 0, 0, 1])
        self.assertEqual(answers(done(0)), [4, 0, 2, 0, 0])

    def test_what_was_given_back_may_be_changed(self):
        given = answers(self.CALLS)
        kept = list(given)
        given.clear()
        self.assertEqual(answers(self.CALLS), kept)

    def test_nothing_is_printed(self):
        printed = io.StringIO()
        with contextlib.redirect_stdout(printed), contextlib.redirect_stderr(printed):
            answers(self.CALLS)
        self.assertEqual(printed.getvalue(), "")
