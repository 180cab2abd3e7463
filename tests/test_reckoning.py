"""Many rounds, made by fixed rules, against the slow second reckoning of tests.helper."""

import random
import unittest

from tests.helper import ODD, ORDER, PLAN, WALK, Reckoning, judge, run, way


def make_round(seed):
    """A round that is the same whenever it is made of this seed; short lengths make for many equals."""
    chance = random.Random(seed)
    n = chance.randint(2, 10)
    lengths = chance.choice((1, 2, 4, 1000000))
    streets = []
    for number in range(chance.randint(1, 20)):
        first, second = chance.sample(range(1, n + 1), 2)
        if number < n - 1 and chance.random() < 0.9:
            # Joined to what came before, so that most rounds are connected.
            first, second = number + 2, chance.randint(1, number + 1)
        if chance.random() < 0.5:
            first, second = second, first
        streets.append((first, second, chance.randint(1, lengths), int(chance.random() < 0.3)))
    chance.shuffle(streets)
    points = []
    for number in range(chance.randint(0, 60)):
        on = chance.randint(1, len(streets))
        points.append((on, chance.randint(0, 1), chance.randint(0, streets[on - 1][2])))
    return Reckoning(n, chance.randint(1, n), streets, points)


class AgainstTheReckoning(unittest.TestCase):
    def check(self, reckoning):
        calls = reckoning.calls()
        given = run(*calls, PLAN, WALK, ORDER, ODD)[len(calls):]
        self.assertEqual(given, reckoning.answers())
        return given

    def check_ways(self, reckoning):
        calls = reckoning.calls()
        pairs = [(one, other) for one in range(1, reckoning.n + 1) for other in range(1, reckoning.n + 1)]
        given = run(*calls, *[way(one, other) for one, other in pairs])[len(calls):]
        for (one, other), answer in zip(pairs, given, strict=True):
            found = reckoning.way(one, other)
            self.assertEqual(answer, [-7] if found is None else [found[0], len(found[1])] + found[1])

    def check_walk_is_judged_2(self, reckoning, plan, walk):
        calls = reckoning.calls()
        self.assertEqual(run(*calls, judge(*walk[2::3]))[-1], [2, 2, plan[0], reckoning.depot])

    def test_made_rounds(self):
        connected = 0
        for seed in range(400):
            with self.subTest(seed=seed):
                reckoning = make_round(seed)
                given = self.check(reckoning)
                self.check_ways(reckoning)
                if given[0] != [-7]:
                    connected += 1
                    self.check_walk_is_judged_2(reckoning, given[0], given[1])
        self.assertGreater(connected, 100)
        self.assertLess(connected, 400)

    def test_the_greatest_round(self):
        streets = [(corner, corner % 10 + 1, corner % 3 + 1, corner % 2) for corner in range(1, 11)]
        streets += [(corner, corner + 5, corner % 4 + 1, 0) for corner in range(1, 6)]
        streets += [(corner, (corner + 2) % 10 + 1, 2, corner % 2) for corner in range(1, 6)]
        points = [(number % 20 + 1, number % 2, number % (streets[number % 20][2] + 1)) for number in range(60)]
        for depot in range(1, 11):
            with self.subTest(depot=depot):
                self.check(Reckoning(10, depot, streets, points))

    def test_ten_odd_corners(self):
        for length in (1, 2, 3):
            streets = [(one, other, (one * other) % length + 1, 0)
                       for one in range(1, 11) for other in (one % 10 + 1, one + 5) if other <= 10]
            with self.subTest(length=length):
                given = self.check(Reckoning(10, 1, streets))
                self.assertEqual(given[3][0], 10)
