"""What the tests share: calls by name, answers call by call, and a slow second reckoning to compare with."""

from carrierround.house import answers

LEAST = -2 ** 63
GREATEST = 2 ** 63 - 1


def begin(n, depot):
    return [0, n, depot]


def street(first, second, length, wide=0):
    return [1, first, second, length, wide]


def point(street_number, side, how_far):
    return [2, street_number, side, how_far]


PLAN = [3]
WALK = [4]
ORDER = [5]
ODD = [7]


def way(first, second):
    return [6, first, second]


def judge(*streets):
    return [8, len(streets)] + list(streets)


def forward(a_point, to_point, from_day, to_day):
    return [9, a_point, to_point, from_day, to_day]


def hold(a_point, from_day, to_day):
    return [10, a_point, from_day, to_day]


def split(given):
    """The answers one by one, of the one list that is given back."""
    parts = []
    at = 0
    while at < len(given):
        count = given[at]
        part = given[at + 1:at + 1 + count]
        if count < 1 or len(part) != count:
            raise ValueError("an answer is shorter than it tells")
        parts.append(part)
        at += 1 + count
    return parts


def run(*calls):
    """The answers of these calls on one new round, one list each."""
    flat = [number for call in calls for number in call]
    parts = split(answers(flat))
    if len(parts) != len(calls):
        raise ValueError("not one answer for each call")
    return parts


def last(*calls):
    """The last call's answer."""
    return run(*calls)[-1]


class Reckoning:
    """The document's walk, worked out by trying: streets are (first, second, length, wide)."""

    def __init__(self, n, depot, streets, points=()):
        self.n = n
        self.depot = depot
        self.streets = dict(enumerate(streets, start=1))
        self.points = dict(enumerate(points, start=1))

    def calls(self):
        return ([begin(self.n, self.depot)]
                + [[1] + list(one) for one in self.streets.values()]
                + [[2] + list(one) for one in self.points.values()])

    def ends(self, number):
        return self.streets[number][:2]

    def across(self, number, corner):
        first, second = self.ends(number)
        return second if corner == first else first

    def needs(self, number):
        return 2 if self.streets[number][3] else 1

    def group(self, corner, numbers):
        """The corners that can be come to by these streets, grown till it grows no more."""
        group = {corner}
        grown = True
        while grown:
            grown = False
            for number in numbers:
                ends = set(self.ends(number))
                if ends & group and not ends <= group:
                    group |= ends
                    grown = True
        return group

    def reaches(self, corner, numbers):
        group = self.group(corner, numbers)
        return all(self.ends(number)[0] in group for number in numbers)

    def connected(self):
        return self.reaches(self.depot, list(self.streets))

    def distance_to(self, goal):
        """Corner by corner the distance to the goal, by going over all streets again and again."""
        far = {goal: 0}
        for turn in range(self.n):
            for first, second, length, wide in self.streets.values():
                for one, other in ((first, second), (second, first)):
                    if other in far and far[other] + length < far.get(one, GREATEST):
                        far[one] = far[other] + length
        return far

    def way(self, start, goal):
        far = self.distance_to(goal)
        if start not in far:
            return None
        taken = []
        corner = start
        while corner != goal:
            number = min(number for number in self.streets if corner in self.ends(number)
                         and far.get(self.across(number, corner), GREATEST) + self.streets[number][2] == far[corner])
            taken.append(number)
            corner = self.across(number, corner)
        return far[start], taken

    def odd(self):
        return [corner for corner in range(1, self.n + 1)
                if sum(self.needs(number) for number in self.streets if corner in self.ends(number)) % 2]

    def pairings(self, corners):
        """All pairings, in the order in which the document prefers them."""
        if not corners:
            yield []
        for other in corners[1:]:
            rest = [corner for corner in corners[1:] if corner != other]
            for pairs in self.pairings(rest):
                yield [(corners[0], other)] + pairs

    def pairing(self):
        far = {corner: self.distance_to(corner) for corner in self.odd()}
        return min(self.pairings(self.odd()), key=lambda pairs: sum(far[one][other] for one, other in pairs))

    def added(self):
        return [number for one, other in self.pairing() for number in self.way(one, other)[1]]

    def walk(self):
        left = [number for number in self.streets for time in range(self.needs(number))] + self.added()
        corner = self.depot
        walked = []
        steps = []
        while left:
            for number in sorted(left):
                if corner in self.ends(number):
                    then = list(left)
                    then.remove(number)
                    if self.reaches(self.across(number, corner), then):
                        break
            else:
                raise ValueError("no street to take")
            wide = self.streets[number][3]
            serves = {(0, 0): 0, (1, 0): 1, (1, 1): 2}.get((wide, walked.count(number)), 3)
            steps.append((number, 1 if corner == self.ends(number)[1] else 0, serves))
            walked.append(number)
            left = then
            corner = self.across(number, corner)
        if corner != self.depot:
            raise ValueError("the walk doesn't come back")
        return steps

    def order(self):
        found = []
        gone = 0
        for number, back, serves in self.walk():
            length = self.streets[number][2]
            here = []
            for name, (on, side, how_far) in self.points.items():
                if on == number and side in {0: (0, 1), 1: (0,), 2: (1,), 3: ()}[serves]:
                    here.append((length - how_far if back else how_far, side, name))
            found += [(name, gone + along) for along, side, name in sorted(here)]
            gone += length
        return found

    def answers(self):
        """What plan, walk, order and odd answer."""
        if not self.connected():
            return [[-7], [-7], [-7], [-7]]
        must = sum(self.streets[number][2] * self.needs(number) for number in self.streets)
        added = self.added()
        more = sum(self.streets[number][2] for number in added)
        walk = self.walk()
        order = self.order()
        odd = self.odd()
        return [[must + more, 2, must, more, len(added)] + added,
                [len(walk), 3 * len(walk)] + [number for step in walk for number in step],
                [len(order), 2 * len(order)] + [number for one in order for number in one],
                [len(odd), len(odd)] + [corner for pair in self.pairing() for corner in pair]]
