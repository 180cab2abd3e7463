"""Many lines, made by fixed rules, against the second reckoning of orders, items and days in tests.helper."""

import random
import unittest

from tests.helper import (
    COUNTS, ORDER, Line, begin, cancel, done, forward, goes_to, hold, item, item_at, orders, point, point_at, run, street,
    street_at, tour)


def make_streets(chance, n):
    calls = []
    for number in range(chance.randint(1, 9)):
        ends = chance.sample(range(1, n + 1), 2)
        if number < n - 1 and chance.random() < 0.97:
            # Joined to what came before, so that most rounds are connected.
            ends = [number + 2, chance.randint(1, number + 1)]
        chance.shuffle(ends)
        calls.append(street(ends[0], ends[1], chance.randint(1, 6), chance.randint(0, 1)))
    return calls


def make_points(chance, streets):
    calls = []
    for number in range(chance.choice((1, 3, 6, 9, 12))):
        on = chance.randint(1, len(streets))
        calls.append(point(on, chance.randint(0, 1), chance.randint(0, streets[on - 1][3])))
    return calls


def make_call(chance, points, latest):
    """One call; its numbers are wrong now and then."""
    def some_point():
        return chance.randint(1, points) if chance.random() < 0.95 else chance.randint(-1, 62)

    def some_day():
        return max(0, latest + chance.randint(-2, 4)) if chance.random() < 0.97 else chance.choice((-1, 100000, 100001))

    one = some_point()
    # Often the next point, so that there are long rows of sendings on.
    other = one % points + 1 if chance.random() < 0.7 else some_point()
    first = some_day()
    last = first + chance.randint(0, 20) if chance.random() < 0.95 else some_day()
    kind = chance.choices(range(12), (24, 3, 4, 24, 12, 3, 3, 6, 3, 3, 4, 2))[0]
    return (forward(one, other, first, last), hold(some_point(), first, last),
            cancel(chance.randint(0, 45)), item(some_point(), some_day()), goes_to(some_day(), some_point()),
            tour(some_day()), done(some_day()), item_at(chance.randint(1, 40)), street_at(chance.randint(0, 10)),
            point_at(some_point()), orders(some_point()), COUNTS)[kind]


def make_line(seed):
    """A line that is the same whenever it is made of this seed."""
    chance = random.Random(seed)
    calls = []
    for turn in range(chance.choice((1, 1, 1, 2))):
        n = chance.randint(2, 7)
        streets = make_streets(chance, n)
        points = make_points(chance, streets)
        calls += [begin(n, chance.randint(1, n))] + streets + points + [ORDER]
        calls += [make_call(chance, len(points), turn // 12) for turn in range(chance.randint(20, 140))]
        calls += [item_at(number) for number in range(1, 25)]
    return calls


class AgainstTheReckoning(unittest.TestCase):
    def check(self, calls):
        self.assertLessEqual(len(calls), 400)
        line = Line()
        expected = [line.answer(call) for call in calls]
        self.assertEqual(run(*calls), expected)
        return expected

    def test_made_lines(self):
        seen = set()
        for seed in range(300):
            with self.subTest(seed=seed):
                calls = make_line(seed)
                for call, answer in zip(calls, self.check(calls), strict=True):
                    seen.add((call[0], min(answer[0], 5)))
        ends = [(13, how) for how in (1, 2, 3, 4)] + [(16, state) for state in (0, 1, 2)]
        long_tours = [(14, 5), (15, 5)]
        refused = [(9, -1), (9, -4), (9, -6), (10, -1), (10, -4), (10, -6), (11, -1), (11, -4), (12, -1), (12, -4),
                   (13, -1), (13, -4), (14, -1), (14, -7), (15, -1), (15, -7), (15, -6), (16, -4), (17, -1), (17, -4),
                   (18, -1), (18, -4), (19, -1), (19, -4)]
        self.assertEqual([one for one in ends + long_tours + refused if one not in seen], [])

    def test_the_fullest_line(self):
        streets = [street(corner, corner % 10 + 1, corner % 3 + 1, corner % 2) for corner in range(1, 11)]
        streets += [street(corner, (corner + 3) % 10 + 1, 4, 0) for corner in range(1, 11)]
        points = [point(number % 20 + 1, number % 2, number % 3 % 2) for number in range(60)]
        sent = [forward(number, number * 7 % 36 + 1, number % 5, number % 5 + 6) for number in range(1, 37)]
        held = [hold(number, 2, 5) for number in (3, 10, 59, 60)]
        items = [item(number * 11 % 60 + 1, number % 13) for number in range(200)]
        days = [call for day in range(15) for call in (tour(day), done(day), tour(day), tour(day + 1))]
        calls = [begin(10, 4)] + streets + points + sent + held + items + days + [COUNTS] * 15
        self.assertEqual(len(calls), 396)
        given = self.check(calls)
        self.assertNotIn([-7], given)
        self.assertGreater(given[-18][3], 0)
