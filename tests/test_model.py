"""The desk beside a slow model that writes down a supplier for every single day."""

import random
import unittest

from tests.helper import ARGUMENT_COUNTS, run

DAYS = 20001


class Refused(Exception):
    pass


class Model:
    """What is known today is kept day by day: all facts on record are known, so a later one writes over what stood there.

    What was known at another day is written down anew, day by day, from the facts known then.
    """

    def __init__(self):
        self.is_open = False
        self.today = 0
        self.count = 0
        self.holidays, self.failed = set(), set()
        self.supplied, self.requests, self.told, self.bills = [], [], [], {}
        self.facts_on_record = []

    def refuse(self, number, condition):
        if condition:
            raise Refused(number)

    def answer(self, call):
        do, *arguments = call
        try:
            for (low, high), given in zip(RANGES[do], arguments):
                self.refuse(-1, not low <= given <= high)
            self.refuse(-2, do != 0 and not self.is_open)
            return [0] + CALLS[do](self, *arguments)
        except Refused as refusal:
            return [refusal.args[0]]

    def waiting(self):
        return [asked for asked in self.requests if asked["stands"] == "waiting"]

    def no_point(self, point):
        self.refuse(-5, point > len(self.supplied))

    def no_working_supplier(self, supplier):
        self.refuse(-6, supplier > self.count or supplier in self.failed)

    def business(self, n):
        days = [d for d in range(self.today + 1, self.today + 200) if d % 7 not in (5, 6) and d not in self.holidays]
        return days[n - 1]

    def no_supplier(self, supplier):
        self.refuse(-6, supplier > self.count)

    def write(self, point, first, last, supplier, known):
        self.supplied[point - 1][first:last + 1] = [supplier] * (last + 1 - first)
        self.facts_on_record.append((point, first, last, supplier, known))

    def as_known_at(self, point, k):
        row = [self.basic] * DAYS
        for where, first, last, supplier, known in self.facts_on_record:
            if where == point and known <= k:
                row[first:last + 1] = [supplier] * (last + 1 - first)
        return row

    def amounts_known_at(self, k):
        amounts = {}
        for point, day, amount, told in self.told:
            if told <= k:
                amounts[point, day] = amount
        return amounts

    def stretch(self, point, day):
        row = self.supplied[point - 1]
        while day < DAYS - 1 and row[day + 1] == row[day]:
            day += 1
        return day

    def full(self, new=1):
        self.refuse(-4, len(self.facts_on_record) + new + len(self.waiting()) > 256)

    def open(self, basic, count, objections, notice):
        self.refuse(-3, self.is_open)
        self.refuse(-12, basic > count or not notice > objections)
        self.is_open, self.basic, self.count = True, basic, count
        self.objections, self.notice = objections, notice
        return []

    def holiday(self, day):
        self.refuse(-8, not day > self.today)
        self.refuse(-4, len(self.holidays | {day}) > 32)
        self.holidays.add(day)
        return []

    def point(self):
        self.refuse(-4, len(self.supplied) == 16)
        self.supplied.append([self.basic] * DAYS)
        return [len(self.supplied)]

    def day(self, day):
        self.refuse(-8, not day > self.today)
        due = sorted((a for a in self.waiting() if a["deadline"] < day), key=lambda a: (a["deadline"], a["number"]))
        for asked in due:
            last = self.stretch(asked["point"], asked["start"])
            self.write(asked["point"], asked["start"], last, asked["new"], asked["deadline"] + 1)
            asked["stands"] = "confirmed"
        self.today = day
        return [len(due)]

    def request(self, point, new, start):
        self.no_point(point)
        self.no_working_supplier(new)
        self.refuse(-8, start < self.business(self.notice) or start - self.today > 400)
        self.refuse(-10, point in [asked["point"] for asked in self.waiting()])
        old = self.supplied[point - 1][start]
        self.refuse(-9, old == new)
        self.refuse(-4, len(self.requests) == 64)
        self.full()
        deadline = self.business(self.objections)
        number = len(self.requests) + 1
        self.requests.append({"number": number, "point": point, "new": new, "start": start, "old": old,
                              "deadline": deadline, "stands": "waiting"})
        return [number, old, deadline]

    def waiting_one(self, number):
        found = [asked for asked in self.waiting() if asked["number"] == number]
        self.refuse(-7, not found)
        return found[0]

    def object(self, number, supplier):
        asked = self.waiting_one(number)
        self.no_working_supplier(supplier)
        self.refuse(-11, asked["old"] != supplier)
        asked["stands"] = "objected to"
        return []

    def withdraw(self, number):
        self.waiting_one(number)["stands"] = "withdrawn"
        return []

    def vacate(self, point, day):
        self.no_point(point)
        self.refuse(-8, not self.today < day <= self.today + 400)
        self.refuse(-9, self.supplied[point - 1][day] == self.basic)
        self.full()
        last = self.stretch(point, day)
        self.write(point, day, last, self.basic, self.today)
        return [last]

    def correct(self, point, first, last, supplier):
        self.no_point(point)
        self.no_working_supplier(supplier)
        self.refuse(-8, last < first or self.today - first > 400 or last - self.today > 400)
        self.full()
        self.write(point, first, last, supplier, self.today)
        return []

    def fail(self, supplier):
        self.no_working_supplier(supplier)
        self.refuse(-9, supplier == self.basic)
        new = []
        for point, row in enumerate(self.supplied, 1):
            day = self.today + 1
            while day < DAYS:
                last = self.stretch(point, day)
                if row[day] == supplier:
                    new.append((point, day, last, self.basic))
                day = last + 1
        dropped = [asked for asked in self.waiting() if asked["new"] == supplier]
        self.full(len(new) - len(dropped))
        for asked in dropped:
            asked["stands"] = "dropped"
        for fact in new:
            self.write(*fact, self.today)
        self.failed.add(supplier)
        return [len(new)]

    def volume(self, point, day, amount):
        self.no_point(point)
        self.refuse(-8, day > self.today)
        self.refuse(-4, len(self.told) == 256)
        self.told.append((point, day, amount, self.today))
        return []

    def bill(self, supplier, first, last):
        self.no_supplier(supplier)
        self.refuse(-8, last < first)
        self.refuse(-4, len(self.bills) == 64 and (supplier, first, last) not in self.bills)
        billed = 0
        for place, (point, day, amount, told_on) in enumerate(self.told):
            is_last = (point, day) not in [told[:2] for told in self.told[place + 1:]]
            if is_last and first <= day <= last and self.supplied[point - 1][day] == supplier:
                billed += amount
        before = self.bills.get((supplier, first, last), 0)
        self.bills[(supplier, first, last)] = billed
        return [billed - before]

    def who(self, point, day, k):
        self.no_point(point)
        self.refuse(-8, k > self.today)
        return [self.as_known_at(point, k)[day]]

    def history(self, point, k):
        self.no_point(point)
        self.refuse(-8, k > self.today)
        row = self.as_known_at(point, k)
        spans = [(day, row[day]) for day in range(DAYS) if day == 0 or row[day] != row[day - 1]]
        return [len(spans)] + [number for span in spans for number in span]

    def volume_of(self, supplier, first, last, k):
        self.no_supplier(supplier)
        self.refuse(-8, last < first or k > self.today)
        amounts = self.amounts_known_at(k)
        total = 0
        for point in range(1, len(self.supplied) + 1):
            row = self.as_known_at(point, k)
            for day in [day for where, day in amounts if where == point and first <= day <= last]:
                total += amounts[point, day] if row[day] == supplier else 0
        return [total]

    def volumes(self, first, last, k):
        self.refuse(-8, last < first or k > self.today)
        each = [self.volume_of(supplier, first, last, k)[0] for supplier in range(1, self.count + 1)]
        told = [amount for (point, day), amount in self.amounts_known_at(k).items() if first <= day <= last]
        return each + [sum(told)]

    def is_business_day(self, day):
        return day % 7 not in (5, 6) and day not in self.holidays

    def business_after(self, day, n):
        return [([day] + [after for after in range(day + 1, day + 300) if self.is_business_day(after)])[n]]

    def business_between(self, a, b):
        self.refuse(-8, b < a)
        return [len([day for day in range(a + 1, b + 1) if self.is_business_day(day)])]

    def request_is(self, number):
        self.refuse(-7, number > len(self.requests))
        asked = self.requests[number - 1]
        stands = ("waiting", "confirmed", "objected to", "withdrawn", "dropped").index(asked["stands"])
        return [asked[what] for what in ("point", "new", "start", "old", "deadline")] + [stands]

    def differs(self, point, j, k):
        self.no_point(point)
        self.refuse(-8, j > self.today or k > self.today)
        one, other = self.as_known_at(point, j), self.as_known_at(point, k)
        stretches = []
        for day in range(DAYS):
            if one[day] != other[day]:
                if stretches and stretches[-1][1] == day - 1:
                    stretches[-1][1] = day
                else:
                    stretches.append([day, day])
        return [len(stretches)] + [number for stretch in stretches for number in stretch]

    def supplied_by(self, supplier, day, k):
        self.no_supplier(supplier)
        self.refuse(-8, k > self.today)
        points = [point for point in range(1, len(self.supplied) + 1) if self.as_known_at(point, k)[day] == supplier]
        return [len(points)] + points

    def facts(self, point):
        self.no_point(point)
        found = [fact[1:] for fact in self.facts_on_record if fact[0] == point]
        return [len(found)] + [number for fact in found for number in fact]

    def state(self):
        counts = [len(kept) for kept in (self.supplied, self.requests, self.waiting(), self.facts_on_record, self.told,
                                         self.holidays)]
        return [self.today] + counts + [int(supplier in self.failed) for supplier in range(1, self.count + 1)]


CALLS = (Model.open, Model.holiday, Model.point, Model.day, Model.request, Model.object, Model.withdraw, Model.vacate,
         Model.correct, Model.fail, Model.volume, Model.bill, Model.who, Model.history, Model.volume_of, Model.volumes,
         Model.business_after, Model.business_between, Model.request_is, Model.differs, Model.supplied_by, Model.facts,
         Model.state)

DAY, POINT, SUPPLIER, REQUEST = (0, 20000), (1, 16), (1, 8), (1, 64)
RANGES = (
    (SUPPLIER, SUPPLIER, (1, 30), (1, 30)), (DAY,), (), (DAY,), (POINT, SUPPLIER, DAY), (REQUEST, SUPPLIER), (REQUEST,),
    (POINT, DAY), (POINT, DAY, DAY, SUPPLIER), (SUPPLIER,), (POINT, DAY, (0, 10 ** 9)), (SUPPLIER, DAY, DAY),
    (POINT, DAY, DAY), (POINT, DAY), (SUPPLIER, DAY, DAY, DAY), (DAY, DAY, DAY), (DAY, (0, 100)), (DAY, DAY), (REQUEST,),
    (POINT, DAY, DAY), (SUPPLIER, DAY, DAY), (POINT,), (),
)

# What is drawn from, beside each call once.
OFTEN = (1, 2, 3, 3, 3, 3, 4, 4, 4, 4, 5, 6, 7, 7, 7, 8, 8, 8, 8, 10, 10, 10, 11, 11, 11, 12, 12, 13, 14, 15, 16, 17, 18,
         19, 20, 21, 22)


class Drawn:
    """Calls drawn so that most are accepted, some are refused, and a few are out of range."""

    def __init__(self, seed, first_day):
        self.draw = random.Random(seed)
        self.now = first_day
        self.points = self.draw.choice((1, 2, 5, 16))
        self.suppliers = self.draw.randint(2, 8)

    def around(self, low, high):
        return max(0, min(20000, self.now + self.draw.randint(low, high)))

    def point(self):
        return self.draw.randint(1, self.points)

    def supplier(self):
        return self.draw.randint(1, self.suppliers)

    def number(self):
        return self.draw.randint(1, 12)

    def next_day(self):
        self.now = min(20000, self.now + self.draw.choice((0, 1, 1, 2, 3, 5, 8, 30)))
        return self.now

    def span(self, low, high):
        return sorted((self.around(low, high), self.around(low, high)))

    def known(self):
        return self.draw.choice((self.now, self.now, self.around(-9, 0), self.around(-99, 0), self.around(-999, 1)))

    def ordinary(self, do):
        return [do] + {
            0: lambda: [self.supplier(), self.suppliers, 1, 2],
            1: lambda: [self.around(-1, 15)],
            2: lambda: [],
            3: lambda: [self.next_day()],
            4: lambda: [self.point(), self.supplier(), self.around(0, 60)],
            5: lambda: [self.number(), self.supplier()],
            6: lambda: [self.number()],
            7: lambda: [self.point(), self.around(-2, 60)],
            8: lambda: [self.point()] + self.span(-40, 80) + [self.supplier()],
            9: lambda: [self.supplier()],
            10: lambda: [self.point(), self.around(-40, 2), self.draw.randint(0, 999)],
            11: lambda: [self.supplier()] + self.some_days(),
            12: lambda: [self.point(), self.around(-40, 80), self.known()],
            13: lambda: [self.point(), self.known()],
            14: lambda: [self.supplier()] + self.some_days() + [self.known()],
            15: lambda: self.some_days() + [self.known()],
            16: lambda: [self.around(-20, 20), self.draw.randint(0, 100)],
            17: lambda: self.some_days(),
            18: lambda: [self.number()],
            19: lambda: [self.point(), self.known(), self.known()],
            20: lambda: [self.supplier(), self.around(-40, 80), self.known()],
            21: lambda: [self.point()],
            22: lambda: [],
        }[do]()

    def some_days(self):
        return self.draw.choice(([0, 20000], [0, self.now], self.span(-40, 40), self.span(-40, 40)))

    def odd(self, do):
        wide = (-10 ** 18, -1, 0, 1, 2, 8, 9, 16, 17, 30, 31, 64, 65, 100, 101, 400, 20000, 20001, 10 ** 9 + 1, 10 ** 18)
        near = [self.draw.choice((self.now, self.now + 1, self.now + 400, self.now + 401, self.now - 400, self.now - 401,
                                  1, 2)) for place in range(ARGUMENT_COUNTS[do])]
        drawn = [do] + [self.draw.choice(wide) if self.draw.random() < 0.1 else given for given in near]
        if do == 3 and drawn[1] <= 20000:
            self.now = max(self.now, drawn[1])
        return drawn

    def calls(self, how_many):
        """As many calls as told, each of the twenty-three among them."""
        notice = self.draw.randint(2, 9)
        drawn = [[0, self.supplier(), self.suppliers, self.draw.randint(1, notice - 1), notice]]
        drawn += [[2]] * self.points
        if self.now:
            drawn.append([3, self.now])
        to_come = list(range(23)) + [9] * self.draw.choice((0, 0, 1, 2))
        to_come += [self.draw.choice(OFTEN) for place in range(how_many - len(drawn) - len(to_come))]
        self.draw.shuffle(to_come)
        for do in to_come:
            drawn.append(self.odd(do) if self.draw.random() < 0.05 else self.ordinary(do))
        return drawn


class ModelTest(unittest.TestCase):
    def compare(self, seed, first_day):
        """Gives back which calls were accepted, in lists of the greatest length with all twenty-three among them."""
        calls = Drawn(seed, first_day).calls(300)
        self.assertEqual(len(calls), 300)
        self.assertEqual({call[0] for call in calls}, set(range(23)))
        model = Model()
        expected = [model.answer(call) for call in calls]
        got = run(calls)
        for place, call in enumerate(calls):
            self.assertEqual(got[place], expected[place], (seed, place, call))
        self.assertEqual(len(got), len(calls))
        return {call[0] for place, call in enumerate(calls) if got[place][0] == 0}

    def compare_all(self, seeds, first_day):
        accepted = set()
        for seed in seeds:
            accepted |= self.compare(seed, first_day)
        self.assertEqual(accepted, set(range(23)))

    def test_from_day_0(self):
        self.compare_all(range(60), 0)

    def test_later(self):
        self.compare_all(range(60, 90), 5003)

    def test_near_the_last_day(self):
        self.compare_all(range(90, 120), 19900)


class NeverChangesTest(unittest.TestCase):
    """What was known at a day that is over never changes, whatever is told later."""

    def test_histories_and_volumes(self):
        for seed in range(200, 215):
            drawn = Drawn(seed, 0).calls(300)
            told = [call for call in drawn[1:] if call[0] < 12]
            self.check(drawn[:1] + [[2]] * 16 + told[:200])

    def check(self, calls):
        """What is known at the end of each day is asked for on this day, and again at the end of all calls."""
        today = 0
        for place, call in enumerate(calls):
            if call[0] == 3 and today < call[1] <= 20000:
                questions = [[13, at, today] for at in range(1, 17)] + [[15, 0, 20000, today]]
                on_this_day = run(calls[:place] + questions)[place:]
                self.assertEqual([answer[0] for answer in on_this_day], [0] * 17)
                self.assertEqual(run(calls + questions)[len(calls):], on_this_day, (place, today))
                today = call[1]
        self.assertGreater(today, 0)


if __name__ == "__main__":
    unittest.main()
