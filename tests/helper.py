"""What the tests share: the calls as lists of numbers, running them, and looking at what they answered."""

import unittest

from supplierdays.desk import answers

FAR = 10 ** 18

ARGUMENT_COUNTS = (4, 1, 0, 1, 3, 2, 1, 2, 4, 1, 3, 3, 3, 2, 4, 3, 2, 2, 1, 3, 3, 1, 0)


def open_house(basic=1, suppliers=4, objection_time=2, notice=5):
    return [0, basic, suppliers, objection_time, notice]


def holiday(day):
    return [1, day]


def point():
    return [2]


def day(number):
    return [3, number]


def request(at, supplier, start):
    return [4, at, supplier, start]


def object_to(number, supplier):
    return [5, number, supplier]


def withdraw(number):
    return [6, number]


def vacate(at, on):
    return [7, at, on]


def correct(at, first, last, supplier):
    return [8, at, first, last, supplier]


def fail(supplier):
    return [9, supplier]


def volume(at, on, amount):
    return [10, at, on, amount]


def bill(supplier, first, last):
    return [11, supplier, first, last]


def who(at, on, k):
    return [12, at, on, k]


def history(at, k):
    return [13, at, k]


def volume_of(supplier, first, last, k):
    return [14, supplier, first, last, k]


def volumes(first, last, k):
    return [15, first, last, k]


def business_after(behind, n):
    return [16, behind, n]


def business_between(a, b):
    return [17, a, b]


def request_is(number):
    return [18, number]


def differs(at, j, k):
    return [19, at, j, k]


def supplied(supplier, on, k):
    return [20, supplier, on, k]


def facts(at):
    return [21, at]


def state():
    return [22]


def one_list(calls):
    return [number for call in calls for number in call]


def parted(answered):
    """The answers call by call, taken out of the one list that is given back."""
    found = []
    place = 0
    while place < len(answered):
        behind = place + 1 + answered[place]
        found.append(answered[place + 1:behind])
        place = behind
    return found


def run(calls):
    return parted(answers(one_list(calls)))


def open_with(points, **how):
    return [open_house(**how)] + [point()] * points


def probe(today):
    """Calls whose answers show what a house keeps, whatever it is."""
    calls = [state(), business_between(0, 20000)] + [request_is(number) for number in range(1, 5)]
    calls += [facts(at) for at in range(1, 4)] + [volumes(0, 20000, k) for k in (0, today)]
    calls += [open_house(2, 5, 3, 7), point()]
    calls += [bill(supplier, 0, 20000) for supplier in range(1, 9)]
    calls += [bill(supplier, 0, 10) for supplier in range(1, 5)]
    calls += [request(at, supplier, today + 100) for at in range(1, 6) for supplier in (1, 2, 3)]
    calls += [object_to(number, supplier) for number in range(1, 7) for supplier in range(1, 5)]
    calls += [request(at, 4, today + 90) for at in range(1, 6)]
    calls += [volume(1, today, 1), volume(1, today + 1, 1)]
    calls += [day(today + 1), day(today + 40)]
    calls += [vacate(at, today + distance) for at in range(1, 6) for distance in (41, 60, 100, 110)]
    calls += [bill(supplier, 0, 20000) for supplier in range(1, 5)]
    calls += [fail(supplier) for supplier in range(1, 9)]
    return calls


class Case(unittest.TestCase):
    def answered(self, before, call, expected):
        """Behind the calls before it, the call answers what is expected."""
        self.assertEqual(run(before + [call])[-1], expected, call)

    def all_answered(self, pairs):
        """The calls, one after the other, answer what stands beside them."""
        got = run([call for call, expected in pairs])
        for index, (call, expected) in enumerate(pairs):
            self.assertEqual(got[index], expected, (index, call))
        self.assertEqual(len(got), len(pairs))

    def refused(self, before, call, number, today=0, tail=None):
        """The call is refused with the number, and what later calls answer stays the same."""
        later = probe(today) if tail is None else tail
        self.assertLessEqual(len(before) + 1 + len(later), 300)
        got = run(before + [call] + later)
        self.assertEqual(got[len(before)], [number], call)
        self.assertEqual(got[len(before) + 1:], run(before + later)[len(before):], call)

    def asked(self, before, call, expected, today=0, tail=None):
        """The call, asked twice, answers what is expected, and what later calls answer stays the same."""
        later = probe(today) if tail is None else tail
        self.assertLessEqual(len(before) + 2 + len(later), 300)
        got = run(before + [call, call] + later)
        self.assertEqual(got[len(before):len(before) + 2], [expected, expected], call)
        self.assertEqual(got[len(before) + 2:], run(before + later)[len(before):], call)

    def out_of_range(self, before, call, low_and_high, tail=None):
        """Each argument of an accepted call, just and far outside its range, is refused with -1."""
        self.assertEqual(run(before + [call])[-1][0], 0, call)
        self.assertEqual(len(low_and_high), ARGUMENT_COUNTS[call[0]])
        for place, (low, high) in enumerate(low_and_high):
            for wrong in (low - 1, high + 1, -FAR, FAR):
                changed = list(call)
                changed[place + 1] = wrong
                self.refused(before, changed, -1, 0, tail)
                self.answered([], changed, [-1])

    def within_range(self, before, call, low_and_high):
        """No argument at an end of its range is refused with -1, whether the house is open or not."""
        for place, ends in enumerate(low_and_high):
            for end in ends:
                changed = list(call)
                changed[place + 1] = end
                self.assertNotEqual(run(before + [changed])[-1], [-1], changed)
                if call[0] != 0:
                    self.answered([], changed, [-2])

    def ranges(self, before, call, low_and_high):
        self.out_of_range(before, call, low_and_high)
        self.within_range(before, call, low_and_high)


SUPPLIER = (1, 8)
POINT = (1, 16)
DAY = (0, 20000)
REQUEST = (1, 64)
