"""The calls businessAfter and businessBetween."""

import unittest

from tests.helper import DAY, FAR, Case
from tests.helper import business_after, business_between, day, holiday, open_with, run

HOW_MANY = (0, 100)

HOLIDAYS = (3, 6, 7, 8, 16, 20000)


def with_holidays():
    return open_with(1) + [holiday(on) for on in HOLIDAYS]


def is_business_day(on, holidays):
    return on % 7 not in (5, 6) and on not in holidays


class BusinessAfterTest(Case):
    def test_ordinary(self):
        self.asked(open_with(1), business_after(0, 5), [0, 7])
        self.asked(with_holidays(), business_after(0, 5), [0, 10])

    def test_the_day_itself_for_0(self):
        for behind in (0, 1, 3, 5, 6, 12, 16, 20000):
            self.answered(open_with(1), business_after(behind, 0), [0, behind])
            self.answered(with_holidays(), business_after(behind, 0), [0, behind])

    def test_one_by_one(self):
        for n, found in enumerate((0, 1, 2, 3, 4, 7, 8, 9, 10, 11, 14)):
            self.answered(open_with(1), business_after(0, n), [0, found])
        for n, found in enumerate((0, 1, 2, 4, 9, 10, 11, 14, 15, 17)):
            self.answered(with_holidays(), business_after(0, n), [0, found])

    def test_behind_free_days_and_days_before_them(self):
        for behind, found in ((3, 4), (4, 7), (5, 7), (6, 7), (7, 8)):
            self.answered(open_with(1), business_after(behind, 1), [0, found])
        for behind, found in ((2, 4), (3, 4), (4, 9), (5, 9), (6, 9), (7, 9), (8, 9), (15, 17), (16, 17)):
            self.answered(with_holidays(), business_after(behind, 1), [0, found])

    def test_above_the_last_day(self):
        for n, found in enumerate((20000, 20001, 20002, 20003, 20006, 20007)):
            self.answered(open_with(1), business_after(20000, n), [0, found])
        self.answered(open_with(1), business_after(20000, 100), [0, 20140])
        self.answered(open_with(1), business_after(19999, 1), [0, 20000])
        self.answered(with_holidays(), business_after(19999, 1), [0, 20001])

    def test_most_holidays_and_farthest(self):
        told = range(1, 33)
        found = [on for on in range(1, 400) if is_business_day(on, told)]
        before = open_with(1) + [holiday(on) for on in told]
        for n in (1, 2, 50, 99, 100):
            self.answered(before, business_after(0, n), [0, found[n - 1]])

    def test_holidays_that_are_over_still_count(self):
        self.answered(with_holidays() + [day(500)], business_after(2, 1), [0, 4])

    def test_today_does_not_matter(self):
        for today in (1, 9, 20000):
            self.answered(open_with(1) + [day(today)], business_after(4, 3), [0, 9])

    def test_a_refused_holiday_is_none(self):
        before = open_with(1) + [day(8), holiday(8)]
        self.answered(before, business_after(7, 1), [0, 8])

    def test_ranges(self):
        self.ranges(with_holidays(), business_after(3, 7), (DAY, HOW_MANY))
        self.answered(open_with(0), business_after(0, -1), [-1])
        self.answered(open_with(0), business_after(0, 0), [0, 0])
        self.answered(open_with(0), business_after(0, 100), [0, 140])
        self.answered(open_with(0), business_after(0, 101), [-1])
        self.answered(open_with(0), business_after(20001, 0), [-1])
        self.answered(open_with(0), business_after(0, FAR), [-1])


class BusinessBetweenTest(Case):
    def test_ordinary(self):
        self.asked(open_with(1), business_between(0, 14), [0, 10])
        self.asked(with_holidays(), business_between(0, 14), [0, 7])

    def test_the_same_day_twice(self):
        for on in (0, 1, 3, 5, 6, 16, 20000):
            self.answered(open_with(1), business_between(on, on), [0, 0])
            self.answered(with_holidays(), business_between(on, on), [0, 0])

    def test_a_free_day_at_either_end(self):
        for a, b, count in ((4, 5, 0), (3, 5, 1), (3, 6, 1), (5, 6, 0), (5, 7, 1), (6, 7, 1), (6, 8, 2), (5, 12, 5),
                            (6, 13, 5), (5, 13, 5), (6, 12, 5), (4, 7, 1)):
            self.answered(open_with(1), business_between(a, b), [0, count])

    def test_a_holiday_at_either_end(self):
        for a, b, count in ((2, 3, 0), (3, 4, 1), (1, 3, 1), (3, 16, 6), (16, 17, 1), (15, 16, 0), (7, 8, 0), (8, 9, 1)):
            self.answered(with_holidays(), business_between(a, b), [0, count])

    def test_a_holiday_on_a_free_day_takes_nothing_away(self):
        before = open_with(1) + [holiday(5), holiday(6), holiday(12)]
        self.answered(before, business_between(0, 14), [0, 10])
        self.answered(before, business_between(4, 6), [0, 0])

    def test_a_holiday_told_twice_is_one(self):
        self.answered(open_with(1) + [holiday(3), holiday(3)], business_between(0, 4), [0, 3])

    def test_all_days(self):
        self.answered(open_with(1), business_between(0, 20000), [0, 14286])
        self.answered(with_holidays(), business_between(0, 20000), [0, 14281])
        self.answered(open_with(1), business_between(19999, 20000), [0, 1])
        self.answered(with_holidays(), business_between(19999, 20000), [0, 0])

    def test_counted_day_by_day(self):
        for first in (0, 19978):
            told = (first + 3, first + 5, first + 9, first + 10, first + 17)
            before = open_with(1) + [holiday(on) for on in told]
            for a in range(first, first + 23):
                got = run(before + [business_between(a, b) for b in range(a, first + 23)])[len(before):]
                for b in range(a, first + 23):
                    expected = len([on for on in range(a + 1, b + 1) if is_business_day(on, told)])
                    self.assertEqual(got[b - a], [0, expected], (a, b))

    def test_as_many_as_to_the_nth_business_day(self):
        for n in (0, 1, 5, 6, 100):
            for behind in (0, 3, 5, 6, 16):
                found = run(with_holidays() + [business_after(behind, n)])[-1][1]
                self.answered(with_holidays(), business_between(behind, found), [0, n])

    def test_today_does_not_matter(self):
        self.answered(with_holidays() + [day(20000)], business_between(0, 14), [0, 7])

    def test_ranges(self):
        self.ranges(with_holidays(), business_between(3, 3), (DAY, DAY))
        self.answered(open_with(0), business_between(0, 0), [0, 0])
        self.answered(open_with(0), business_between(20000, 20000), [0, 0])

    def test_b_before_a(self):
        self.refused(with_holidays(), business_between(1, 0), -8)
        self.refused(with_holidays(), business_between(6, 5), -8)
        self.refused(with_holidays(), business_between(20000, 0), -8)

    def test_minus_1_comes_first(self):
        self.refused(with_holidays(), business_between(20001, 0), -1)
        self.refused(with_holidays(), business_between(0, -1), -1)


if __name__ == "__main__":
    unittest.main()
