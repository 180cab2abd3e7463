"""What the tests share: calls by name, answers call by call, and slow second reckonings to compare with."""

from carrierround.house import answers

LEAST = -2 ** 63
GREATEST = 2 ** 63 - 1


def begin(n, depot):
    return [0, n, depot]


def street(first, second, length, wide=0):
    return [1, first, second, length, wide]


def point(street_number, side, how_far):
    return [2, street_number, side, how_far]


PLAN = [3]
WALK = [4]
ORDER = [5]
ODD = [7]
COUNTS = [20]


def way(first, second):
    return [6, first, second]


def judge(*streets):
    return [8, len(streets)] + list(streets)


def forward(a_point, to_point, from_day, to_day):
    return [9, a_point, to_point, from_day, to_day]


def hold(a_point, from_day, to_day):
    return [10, a_point, from_day, to_day]


def cancel(number):
    return [11, number]


def item(a_point, day):
    return [12, a_point, day]


def goes_to(day, a_point):
    return [13, day, a_point]


def tour(day):
    return [14, day]


def done(day):
    return [15, day]


def item_at(number):
    return [16, number]


def street_at(number):
    return [17, number]


def point_at(number):
    return [18, number]


def orders(a_point):
    return [19, a_point]


def split(given):
    """The answers one by one, of the one list that is given back."""
    parts = []
    at = 0
    while at < len(given):
        count = given[at]
        part = given[at + 1:at + 1 + count]
        if count < 1 or len(part) != count:
            raise ValueError("an answer is shorter than it tells")
        parts.append(part)
        at += 1 + count
    return parts


def run(*calls):
    """The answers of these calls on one new round, one list each."""
    flat = [number for call in calls for number in call]
    parts = split(answers(flat))
    if len(parts) != len(calls):
        raise ValueError("not one answer for each call")
    return parts


def last(*calls):
    """The last call's answer."""
    return run(*calls)[-1]


class Reckoning:
    """The document's walk, worked out by trying: streets are (first, second, length, wide)."""

    def __init__(self, n, depot, streets, points=()):
        self.n = n
        self.depot = depot
        self.streets = dict(enumerate(streets, start=1))
        self.points = dict(enumerate(points, start=1))

    def calls(self):
        return ([begin(self.n, self.depot)]
                + [[1] + list(one) for one in self.streets.values()]
                + [[2] + list(one) for one in self.points.values()])

    def ends(self, number):
        return self.streets[number][:2]

    def across(self, number, corner):
        first, second = self.ends(number)
        return second if corner == first else first

    def needs(self, number):
        return 2 if self.streets[number][3] else 1

    def group(self, corner, numbers):
        """The corners that can be come to by these streets, grown till it grows no more."""
        group = {corner}
        grown = True
        while grown:
            grown = False
            for number in numbers:
                ends = set(self.ends(number))
                if ends & group and not ends <= group:
                    group |= ends
                    grown = True
        return group

    def reaches(self, corner, numbers):
        group = self.group(corner, numbers)
        return all(self.ends(number)[0] in group for number in numbers)

    def connected(self):
        return self.reaches(self.depot, list(self.streets))

    def distance_to(self, goal):
        """Corner by corner the distance to the goal, by going over all streets again and again."""
        far = {goal: 0}
        for turn in range(self.n):
            for first, second, length, wide in self.streets.values():
                for one, other in ((first, second), (second, first)):
                    if other in far and far[other] + length < far.get(one, GREATEST):
                        far[one] = far[other] + length
        return far

    def way(self, start, goal):
        far = self.distance_to(goal)
        if start not in far:
            return None
        taken = []
        corner = start
        while corner != goal:
            number = min(number for number in self.streets if corner in self.ends(number)
                         and far.get(self.across(number, corner), GREATEST) + self.streets[number][2] == far[corner])
            taken.append(number)
            corner = self.across(number, corner)
        return far[start], taken

    def odd(self):
        return [corner for corner in range(1, self.n + 1)
                if sum(self.needs(number) for number in self.streets if corner in self.ends(number)) % 2]

    def pairings(self, corners):
        """All pairings, in the order in which the document prefers them."""
        if not corners:
            yield []
        for other in corners[1:]:
            rest = [corner for corner in corners[1:] if corner != other]
            for pairs in self.pairings(rest):
                yield [(corners[0], other)] + pairs

    def pairing(self):
        far = {corner: self.distance_to(corner) for corner in self.odd()}
        return min(self.pairings(self.odd()), key=lambda pairs: sum(far[one][other] for one, other in pairs))

    def added(self):
        return [number for one, other in self.pairing() for number in self.way(one, other)[1]]

    def walk(self):
        left = [number for number in self.streets for time in range(self.needs(number))] + self.added()
        corner = self.depot
        walked = []
        steps = []
        while left:
            for number in sorted(left):
                if corner in self.ends(number):
                    then = list(left)
                    then.remove(number)
                    if self.reaches(self.across(number, corner), then):
                        break
            else:
                raise ValueError("no street to take")
            wide = self.streets[number][3]
            serves = {(0, 0): 0, (1, 0): 1, (1, 1): 2}.get((wide, walked.count(number)), 3)
            steps.append((number, 1 if corner == self.ends(number)[1] else 0, serves))
            walked.append(number)
            left = then
            corner = self.across(number, corner)
        if corner != self.depot:
            raise ValueError("the walk doesn't come back")
        return steps

    def order(self):
        found = []
        gone = 0
        for number, back, serves in self.walk():
            length = self.streets[number][2]
            here = []
            for name, (on, side, how_far) in self.points.items():
                if on == number and side in {0: (0, 1), 1: (0,), 2: (1,), 3: ()}[serves]:
                    here.append((length - how_far if back else how_far, side, name))
            found += [(name, gone + along) for along, side, name in sorted(here)]
            gone += length
        return found

    def answers(self):
        """What plan, walk, order and odd answer."""
        if not self.connected():
            return [[-7], [-7], [-7], [-7]]
        must = sum(self.streets[number][2] * self.needs(number) for number in self.streets)
        added = self.added()
        more = sum(self.streets[number][2] for number in added)
        walk = self.walk()
        order = self.order()
        odd = self.odd()
        return [[must + more, 2, must, more, len(added)] + added,
                [len(walk), 3 * len(walk)] + [number for step in walk for number in step],
                [len(order), 2 * len(order)] + [number for one in order for number in one],
                [len(odd), len(odd)] + [corner for pair in self.pairing() for corner in pair]]


class Line:
    """A line's calls from street to counts, answered by what the document says of orders, items and days."""

    NAMES = {1: "street", 2: "point", 5: "order", 9: "forward", 10: "hold", 11: "cancel", 12: "item", 13: "goes_to",
             14: "tour", 15: "done", 16: "item_at", 17: "street_at", 18: "point_at", 19: "orders_of", 20: "counts"}

    def __init__(self, n=4, depot=1):
        self.n, self.depot = n, depot
        self.streets, self.points = [], []
        self.orders = {}
        self.numbers_given = 0
        self.items = []
        self.last_day = 0

    def answer(self, call):
        if call[0] == 0:
            if not (1 <= call[1] <= 10 and 1 <= call[2] <= call[1]):
                return [-1]
            self.__init__(call[1], call[2])
            return [0]
        try:
            return getattr(self, self.NAMES[call[0]])(*call[1:])
        except Refused as refused:
            return [refused.number]

    def round(self):
        return Reckoning(self.n, self.depot, self.streets, self.points)

    def street(self, first, second, length, wide):
        refuse(-1, not (1 <= first <= self.n and 1 <= second <= self.n and 1 <= length <= 10 ** 6 and wide in (0, 1)))
        refuse(-6, first == second)
        refuse(-8, len(self.streets) >= 20)
        self.streets.append((first, second, length, wide))
        return [len(self.streets)]

    def point(self, on, side, how_far):
        refuse(-1, not 1 <= on <= 20 or side not in (0, 1))
        refuse(-4, on > len(self.streets))
        refuse(-1, not 0 <= how_far <= self.streets[on - 1][2])
        refuse(-8, len(self.points) >= 60)
        self.points.append((on, side, how_far))
        return [len(self.points)]

    def order(self):
        refuse(-7, not self.round().connected())
        found = self.round().order()
        return [len(found), 2 * len(found)] + [number for one in found for number in one]

    def check_day(self, *days):
        for day in days:
            refuse(-1, not 0 <= day <= 100000)

    def check_point(self, number):
        refuse(-1, not 1 <= number <= 60)
        refuse(-4, number > len(self.points))

    def new_order(self, *numbers):
        refuse(-8, len(self.orders) >= 40)
        self.numbers_given += 1
        self.orders[self.numbers_given] = numbers
        return [self.numbers_given]

    def forward(self, a_point, to_point, from_day, to_day):
        self.check_day(from_day, to_day)
        refuse(-6, to_day < from_day)
        self.check_point(a_point)
        self.check_point(to_point)
        refuse(-6, a_point == to_point)
        return self.new_order(a_point, to_point, from_day, to_day)

    def hold(self, a_point, from_day, to_day):
        self.check_day(from_day, to_day)
        refuse(-6, to_day < from_day)
        self.check_point(a_point)
        return self.new_order(a_point, 0, from_day, to_day)

    def cancel(self, number):
        refuse(-1, not 1 <= number <= 10 ** 6)
        refuse(-4, number not in self.orders)
        self.orders.pop(number)
        return [0]

    def item(self, a_point, day):
        self.check_day(day)
        self.check_point(a_point)
        refuse(-8, len(self.items) >= 200)
        self.items.append([0, a_point, day, 0, 0])
        return [len(self.items)]

    def where(self, day, gone):
        """Where it goes on from the last of these points, and all that are gone through."""
        found = [number for number, (a_point, to_point, from_day, to_day) in self.orders.items()
                 if a_point == gone[-1] and day in range(from_day, to_day + 1)]
        if not found:
            return 1, gone
        to_point = self.orders[max(found)][1]
        if to_point == 0:
            return 2, gone
        if to_point in gone:
            return 3, gone
        return (4, gone) if len(gone) == 6 else self.where(day, gone + [to_point])

    def goes_to(self, day, a_point):
        self.check_day(day)
        self.check_point(a_point)
        how, gone = self.where(day, [a_point])
        return [how, len(gone)] + gone

    def ends(self, day):
        """For each item that waits and is there, by its number: how it ends and at which point."""
        found = {}
        for number, (state, a_point, since, at, when) in enumerate(self.items, start=1):
            if state == 0 and since <= day:
                how, gone = self.where(day, [a_point])
                found[number] = (how, gone[-1])
        return found

    def stops(self, day):
        ends = self.ends(day)
        return [(number, at) for at, far in self.round().order() for number in ends if ends[number] == (1, at)]

    def tour(self, day):
        self.check_day(day)
        refuse(-7, not self.round().connected())
        stops = self.stops(day)
        return [len(stops), 2 * len(stops)] + [number for stop in stops for number in stop]

    def done(self, day):
        self.check_day(day)
        refuse(-7, not self.round().connected())
        refuse(-6, day < self.last_day)
        ends = self.ends(day)
        for number, (how, at) in ends.items():
            if how != 2:
                one = self.items[number - 1]
                one[0], one[3], one[4] = (1, at, day) if how == 1 else (2, 0, day)
        self.last_day = day
        states = [one[0] for one in self.items]
        return [[how for how, at in ends.values()].count(1), 2, states.count(0), states.count(2)]

    def item_at(self, number):
        refuse(-1, not 1 <= number <= 200)
        refuse(-4, number > len(self.items))
        return [self.items[number - 1][0], 4] + self.items[number - 1][1:]

    def street_at(self, number):
        refuse(-1, not 1 <= number <= 20)
        refuse(-4, number > len(self.streets))
        first, second, length, wide = self.streets[number - 1]
        walked = wide + 1
        if self.round().connected():
            walked = [step[0] for step in self.round().walk()].count(number)
        return [length, 4, first, second, wide, walked]

    def point_at(self, number):
        self.check_point(number)
        on, side, how_far = self.points[number - 1]
        return [on, 2, side, how_far]

    def orders_of(self, a_point):
        self.check_point(a_point)
        found = [[4, number] + list(one[1:]) for number, one in self.orders.items() if one[0] == a_point]
        return [len(found)] + [number for one in found for number in one]

    def counts(self):
        return [self.n, 7, self.depot, len(self.streets), len(self.points), len(self.orders), len(self.items),
                self.last_day, int(self.round().connected())]


class Refused(Exception):
    def __init__(self, number):
        super().__init__(number)
        self.number = number


def refuse(number, is_due):
    if is_due:
        raise Refused(number)
