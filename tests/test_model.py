"""The desk beside a slow model that writes down a supplier for every single day."""

import random
import unittest

from tests.helper import ARGUMENT_COUNTS, run

DAYS = 20001


class Refused(Exception):
    pass


class Model:
    """All facts are known on the day they are put on record, so a later one simply writes over what stood there."""

    def __init__(self):
        self.is_open = False
        self.today = 0
        self.count = 0
        self.holidays, self.failed = set(), set()
        self.supplied, self.requests, self.told, self.bills = [], [], [], {}
        self.fact_count = 0

    def refuse(self, number, condition):
        if condition:
            raise Refused(number)

    def answer(self, call):
        do, *arguments = call
        try:
            for (low, high), given in zip(RANGES[do], arguments):
                self.refuse(-1, not low <= given <= high)
            self.refuse(-2, do != 0 and not self.is_open)
            return [0] + CALLS[do](self, *arguments)
        except Refused as refusal:
            return [refusal.args[0]]

    def waiting(self):
        return [asked for asked in self.requests if asked["stands"] == "waiting"]

    def no_point(self, point):
        self.refuse(-5, point > len(self.supplied))

    def no_working_supplier(self, supplier):
        self.refuse(-6, supplier > self.count or supplier in self.failed)

    def business(self, n):
        days = [d for d in range(self.today + 1, self.today + 200) if d % 7 not in (5, 6) and d not in self.holidays]
        return days[n - 1]

    def write(self, point, first, last, supplier):
        self.supplied[point - 1][first:last + 1] = [supplier] * (last + 1 - first)
        self.fact_count += 1

    def stretch(self, point, day):
        row = self.supplied[point - 1]
        while day < DAYS - 1 and row[day + 1] == row[day]:
            day += 1
        return day

    def full(self, new=1):
        self.refuse(-4, self.fact_count + new + len(self.waiting()) > 256)

    def open(self, basic, count, objections, notice):
        self.refuse(-3, self.is_open)
        self.refuse(-12, basic > count or not notice > objections)
        self.is_open, self.basic, self.count = True, basic, count
        self.objections, self.notice = objections, notice
        return []

    def holiday(self, day):
        self.refuse(-8, not day > self.today)
        self.refuse(-4, len(self.holidays | {day}) > 32)
        self.holidays.add(day)
        return []

    def point(self):
        self.refuse(-4, len(self.supplied) == 16)
        self.supplied.append([self.basic] * DAYS)
        return [len(self.supplied)]

    def day(self, day):
        self.refuse(-8, not day > self.today)
        due = sorted((a for a in self.waiting() if a["deadline"] < day), key=lambda a: (a["deadline"], a["number"]))
        for asked in due:
            last = self.stretch(asked["point"], asked["start"])
            self.write(asked["point"], asked["start"], last, asked["new"])
            asked["stands"] = "confirmed"
        self.today = day
        return [len(due)]

    def request(self, point, new, start):
        self.no_point(point)
        self.no_working_supplier(new)
        self.refuse(-8, start < self.business(self.notice) or start - self.today > 400)
        self.refuse(-10, point in [asked["point"] for asked in self.waiting()])
        old = self.supplied[point - 1][start]
        self.refuse(-9, old == new)
        self.refuse(-4, len(self.requests) == 64)
        self.full()
        deadline = self.business(self.objections)
        number = len(self.requests) + 1
        self.requests.append({"number": number, "point": point, "new": new, "start": start, "old": old,
                              "deadline": deadline, "stands": "waiting"})
        return [number, old, deadline]

    def waiting_one(self, number):
        found = [asked for asked in self.waiting() if asked["number"] == number]
        self.refuse(-7, not found)
        return found[0]

    def object(self, number, supplier):
        asked = self.waiting_one(number)
        self.no_working_supplier(supplier)
        self.refuse(-11, asked["old"] != supplier)
        asked["stands"] = "objected to"
        return []

    def withdraw(self, number):
        self.waiting_one(number)["stands"] = "withdrawn"
        return []

    def vacate(self, point, day):
        self.no_point(point)
        self.refuse(-8, not self.today < day <= self.today + 400)
        self.refuse(-9, self.supplied[point - 1][day] == self.basic)
        self.full()
        last = self.stretch(point, day)
        self.write(point, day, last, self.basic)
        return [last]

    def correct(self, point, first, last, supplier):
        self.no_point(point)
        self.no_working_supplier(supplier)
        self.refuse(-8, last < first or self.today - first > 400 or last - self.today > 400)
        self.full()
        self.write(point, first, last, supplier)
        return []

    def fail(self, supplier):
        self.no_working_supplier(supplier)
        self.refuse(-9, supplier == self.basic)
        new = []
        for point, row in enumerate(self.supplied, 1):
            day = self.today + 1
            while day < DAYS:
                last = self.stretch(point, day)
                if row[day] == supplier:
                    new.append((point, day, last, self.basic))
                day = last + 1
        dropped = [asked for asked in self.waiting() if asked["new"] == supplier]
        self.full(len(new) - len(dropped))
        for asked in dropped:
            asked["stands"] = "dropped"
        for fact in new:
            self.write(*fact)
        self.failed.add(supplier)
        return [len(new)]

    def volume(self, point, day, amount):
        self.no_point(point)
        self.refuse(-8, day > self.today)
        self.refuse(-4, len(self.told) == 256)
        self.told.append((point, day, amount))
        return []

    def bill(self, supplier, first, last):
        self.refuse(-6, supplier > self.count)
        self.refuse(-8, last < first)
        self.refuse(-4, len(self.bills) == 64 and (supplier, first, last) not in self.bills)
        billed = 0
        for place, (point, day, amount) in enumerate(self.told):
            is_last = (point, day) not in [told[:2] for told in self.told[place + 1:]]
            if is_last and first <= day <= last and self.supplied[point - 1][day] == supplier:
                billed += amount
        before = self.bills.get((supplier, first, last), 0)
        self.bills[(supplier, first, last)] = billed
        return [billed - before]


CALLS = (Model.open, Model.holiday, Model.point, Model.day, Model.request, Model.object, Model.withdraw, Model.vacate,
         Model.correct, Model.fail, Model.volume, Model.bill)

DAY, POINT, SUPPLIER, REQUEST = (0, 20000), (1, 16), (1, 8), (1, 64)
RANGES = (
    (SUPPLIER, SUPPLIER, (1, 30), (1, 30)), (DAY,), (), (DAY,), (POINT, SUPPLIER, DAY), (REQUEST, SUPPLIER), (REQUEST,),
    (POINT, DAY), (POINT, DAY, DAY, SUPPLIER), (SUPPLIER,), (POINT, DAY, (0, 10 ** 9)), (SUPPLIER, DAY, DAY),
)


class Drawn:
    """Calls drawn so that most are accepted, some are refused, and a few are out of range."""

    def __init__(self, seed, first_day):
        self.draw = random.Random(seed)
        self.now = first_day
        self.points = self.draw.choice((1, 2, 5, 16))
        self.suppliers = self.draw.randint(2, 8)

    def around(self, low, high):
        return max(0, min(20000, self.now + self.draw.randint(low, high)))

    def point(self):
        return self.draw.randint(1, self.points)

    def supplier(self):
        return self.draw.randint(1, self.suppliers)

    def number(self):
        return self.draw.randint(1, 12)

    def next_day(self):
        self.now = min(20000, self.now + self.draw.choice((0, 1, 1, 2, 3, 5, 8, 30)))
        return self.now

    def span(self, low, high):
        return sorted((self.around(low, high), self.around(low, high)))

    def ordinary(self):
        do = self.draw.choice((1, 2, 3, 3, 3, 4, 4, 4, 4, 5, 6, 7, 7, 7, 8, 8, 8, 8, 10, 10, 10, 11, 11, 11))
        if self.draw.random() < 0.01:
            do = 9
        return [do] + {
            1: lambda: [self.around(-1, 15)],
            2: lambda: [],
            3: lambda: [self.next_day()],
            4: lambda: [self.point(), self.supplier(), self.around(0, 60)],
            5: lambda: [self.number(), self.supplier()],
            6: lambda: [self.number()],
            7: lambda: [self.point(), self.around(-2, 60)],
            8: lambda: [self.point()] + self.span(-40, 80) + [self.supplier()],
            9: lambda: [self.supplier()],
            10: lambda: [self.point(), self.around(-40, 2), self.draw.randint(0, 999)],
            11: lambda: [self.supplier()] + self.draw.choice(([0, 20000], [0, self.now], self.span(-40, 40))),
        }[do]()

    def odd(self):
        do = self.draw.randrange(12)
        wide = (-10 ** 18, -1, 0, 1, 2, 8, 9, 16, 17, 30, 31, 64, 65, 400, 20000, 20001, 10 ** 9 + 1, 10 ** 18)
        near = [self.draw.choice((self.now, self.now + 400, self.now + 401, self.now - 400, self.now - 401, 1, 2))
                for place in range(ARGUMENT_COUNTS[do])]
        return [do] + [self.draw.choice(wide) if self.draw.random() < 0.1 else given for given in near]

    def calls(self, how_many):
        notice = self.draw.randint(2, 9)
        drawn = [[0, self.supplier(), self.suppliers, self.draw.randint(1, notice - 1), notice]]
        drawn += [[2]] * self.points
        if self.now:
            drawn.append([3, self.now])
        while len(drawn) < how_many:
            drawn.append(self.odd() if self.draw.random() < 0.05 else self.ordinary())
        return drawn


class ModelTest(unittest.TestCase):
    def compare(self, seed, first_day, how_many):
        calls = Drawn(seed, first_day).calls(how_many)
        model = Model()
        expected = [model.answer(call) for call in calls]
        got = run(calls)
        for place, call in enumerate(calls):
            self.assertEqual(got[place], expected[place], (seed, place, call))
        self.assertEqual(len(got), len(calls))

    def test_from_day_0(self):
        for seed in range(60):
            self.compare(seed, 0, 300)

    def test_later(self):
        for seed in range(60, 90):
            self.compare(seed, 5000 + seed, 300)

    def test_near_the_last_day(self):
        for seed in range(90, 120):
            self.compare(seed, 19900, 300)


if __name__ == "__main__":
    unittest.main()
