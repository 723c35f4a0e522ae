"""The calls open, holiday, point and state."""

import unittest

from tests.helper import DAY, FAR, SUPPLIER, Case
from tests.helper import bill, business_after, business_between, correct, day, differs, facts, fail, history, holiday
from tests.helper import object_to, open_house, open_with, point, request, request_is, run, state, supplied
from tests.helper import vacate, volume, volume_of, volumes, who, withdraw

WAIT = (1, 30)


class OpenTest(Case):
    def test_ordinary(self):
        self.answered([], open_house(2, 4, 2, 5), [0])

    def test_new_house_has_no_points_and_today_is_day_0(self):
        self.all_answered([
            (open_house(), [0]),
            (volume(1, 0, 1), [-5]),
            (holiday(0), [-8]),
            (day(0), [-8]),
            (holiday(1), [0]),
            (point(), [0, 1]),
            (volume(1, 1, 1), [-8]),
            (volume(1, 0, 1), [0]),
        ])

    def test_basic_supplier_is_the_one_told(self):
        self.answered(open_with(1, basic=3), request(1, 2, 7), [0, 1, 3, 2])
        self.answered(open_with(1, basic=3), request(1, 3, 7), [-9])

    def test_how_many_suppliers(self):
        for suppliers in range(1, 9):
            before = open_with(1, basic=1, suppliers=suppliers)
            self.answered(before, bill(suppliers, 0, 0), [0, 0])
            if suppliers < 8:
                self.answered(before, bill(suppliers + 1, 0, 0), [-6])

    def test_ends_of_the_ranges_are_accepted(self):
        for call in (open_house(1, 1, 1, 2), open_house(8, 8, 1, 2), open_house(1, 8, 29, 30)):
            self.answered([], call, [0])

    def test_ranges(self):
        low_and_high = (SUPPLIER, SUPPLIER, WAIT, WAIT)
        self.ranges([], open_house(1, 4, 2, 5), low_and_high)
        self.answered([], open_house(1, 4, 30, 30), [-12])

    def test_minus_1_comes_before_open_already(self):
        for wrong in (open_house(0), open_house(1, 9), open_house(1, 4, 31, 5), open_house(1, 4, 2, FAR)):
            self.refused(open_with(1), wrong, -1)

    def test_open_already(self):
        self.refused(open_with(1), open_house(2, 8, 1, 30), -3)
        self.refused(open_with(1), open_house(), -3)

    def test_basic_supplier_is_above_how_many_there_are(self):
        self.refused([], open_house(5, 4), -12)
        self.answered([], open_house(4, 4), [0])

    def test_notice_is_not_above_the_time_for_objections(self):
        self.refused([], open_house(1, 4, 5, 5), -12)
        self.refused([], open_house(1, 4, 6, 5), -12)
        self.answered([], open_house(1, 4, 4, 5), [0])

    def test_open_already_comes_before_minus_12(self):
        self.refused(open_with(1), open_house(5, 4), -3)
        self.refused(open_with(1), open_house(1, 4, 5, 5), -3)

    def test_minus_1_comes_before_minus_12(self):
        self.refused([], open_house(5, 4, 5, 0), -1)
        self.refused([], open_house(9, 4), -1)


class NotOpenTest(Case):
    def test_every_other_call(self):
        calls = (holiday(1), point(), day(1), request(1, 1, 7), object_to(1, 1), withdraw(1), vacate(1, 1),
                 correct(1, 0, 0, 1), fail(1), volume(1, 0, 1), bill(1, 0, 0), who(1, 0, 0), history(1, 0),
                 volume_of(1, 0, 0, 0), volumes(0, 0, 0), business_after(0, 0), business_between(0, 0), request_is(1),
                 differs(1, 0, 0), supplied(1, 0, 0), facts(1), state())
        self.assertEqual([call[0] for call in calls], list(range(1, 23)))
        for call in calls:
            self.refused([], call, -2)

    def test_comes_before_what_is_told_of_the_call(self):
        calls = (holiday(0), day(0), request(16, 8, 0), object_to(64, 8), withdraw(64), vacate(16, 0),
                 correct(16, 9, 8, 8), fail(8), volume(16, 20000, 0), bill(8, 1, 0), who(16, 0, 20000),
                 history(16, 20000), volume_of(8, 1, 0, 20000), volumes(1, 0, 20000), business_between(1, 0),
                 request_is(64), differs(16, 20000, 20000), supplied(8, 0, 20000), facts(16))
        for call in calls:
            self.refused([], call, -2)

    def test_a_refused_open_leaves_it_so(self):
        self.all_answered([(open_house(5, 4), [-12]), (point(), [-2]), (open_house(0), [-1]), (point(), [-2])])


class HolidayTest(Case):
    def test_ordinary(self):
        self.answered(open_with(0), holiday(3), [0])

    def test_it_is_no_business_day(self):
        self.answered(open_with(1), request(1, 2, 7), [0, 1, 1, 2])
        self.answered(open_with(1) + [holiday(1)], request(1, 2, 8), [0, 1, 1, 3])
        self.answered(open_with(1) + [holiday(2)], request(1, 2, 8), [0, 1, 1, 3])
        self.answered(open_with(1) + [holiday(3)], request(1, 2, 8), [0, 1, 1, 2])
        self.answered(open_with(1) + [holiday(1), holiday(3)], request(1, 2, 9), [0, 1, 1, 4])

    def test_it_counts_for_the_notice(self):
        self.answered(open_with(1) + [holiday(4)], request(1, 2, 7), [-8])
        self.answered(open_with(1) + [holiday(7)], request(1, 2, 7), [-8])
        self.answered(open_with(1) + [holiday(7)], request(1, 2, 8), [0, 1, 1, 2])
        self.answered(open_with(1) + [holiday(8)], request(1, 2, 7), [0, 1, 1, 2])

    def test_on_a_free_day_it_changes_nothing(self):
        before = open_with(1) + [day(3), holiday(5), holiday(6)]
        self.answered(before, request(1, 2, 10), [0, 1, 1, 7])
        self.answered(before, request(1, 2, 9), [-8])

    def test_told_twice_it_is_one(self):
        twice = [holiday(100), holiday(100)]
        others = [holiday(day) for day in range(101, 132)]
        got = run(open_with(0) + twice + others + [holiday(200)])
        self.assertEqual(got[1:-1], [[0]] * 33)
        self.assertEqual(got[-1], [-4])

    def test_ranges(self):
        self.ranges(open_with(2), holiday(3), (DAY,))
        self.answered(open_with(0), holiday(20000), [0])
        self.answered(open_with(0), holiday(1), [0])

    def test_not_after_today(self):
        self.refused(open_with(2), holiday(0), -8)
        self.refused(open_with(2) + [day(10)], holiday(9), -8, 10)
        self.refused(open_with(2) + [day(10)], holiday(10), -8, 10)
        self.answered(open_with(2) + [day(10)], holiday(11), [0])

    def test_greatest_number(self):
        told = [holiday(day) for day in range(50, 82)]
        self.assertEqual(run(open_with(1) + told), [[0], [0, 1]] + [[0]] * 32)
        self.refused(open_with(1) + told, holiday(1), -4)
        self.refused(open_with(1) + told, holiday(20000), -4)
        self.answered(open_with(1) + told, holiday(50), [0])
        self.answered(open_with(1) + told, holiday(81), [0])
        self.answered(open_with(1) + told + [holiday(50)], holiday(82), [-4])

    def test_those_that_are_over_still_count(self):
        told = [holiday(day) for day in range(1, 33)]
        self.answered(open_with(0) + told + [day(40)], holiday(41), [-4])

    def test_not_after_today_comes_before_too_many(self):
        told = [holiday(day) for day in range(1, 33)]
        self.refused(open_with(1) + told + [day(40)], holiday(40), -8, 40)
        self.refused(open_with(1) + told + [day(40)], holiday(20), -8, 40)
        self.refused(open_with(1) + told, holiday(0), -8)

    def test_a_refused_one_is_not_counted(self):
        told = [holiday(day) for day in range(50, 82)]
        tail = told + [holiday(200)]
        self.refused(open_with(0), holiday(0), -8, 0, tail)
        self.refused(open_with(0), holiday(20001), -1, 0, tail)
        self.refused(open_with(0) + told, holiday(200), -4, 0, [holiday(200)])


class PointTest(Case):
    def test_ordinary(self):
        self.all_answered([(open_house(), [0]), (point(), [0, 1]), (point(), [0, 2]), (point(), [0, 3])])

    def test_there_is_a_point_once_it_was_told(self):
        self.all_answered([
            (open_house(), [0]),
            (point(), [0, 1]),
            (volume(1, 0, 1), [0]),
            (volume(2, 0, 1), [-5]),
            (point(), [0, 2]),
            (volume(2, 0, 1), [0]),
        ])

    def test_the_basic_supplier_supplies_it_from_day_0_on(self):
        before = open_with(1) + [day(19000), point(), volume(2, 0, 6), volume(2, 19000, 1)]
        self.answered(before, bill(1, 0, 20000), [0, 7])

    def test_greatest_number(self):
        self.assertEqual(run(open_with(16))[1:], [[0, number] for number in range(1, 17)])
        self.refused(open_with(16), point(), -4)
        self.answered(open_with(16), volume(16, 0, 1), [0])
        self.answered(open_with(15), volume(16, 0, 1), [-5])


class StateTest(Case):
    def before(self):
        return open_with(5, basic=3, suppliers=6) + [
            request(1, 2, 7), request(2, 4, 8), request(3, 5, 9), request(4, 5, 9), object_to(1, 3), holiday(7),
            holiday(100), holiday(12), correct(5, 0, 20, 1), correct(5, 1, 2, 2), volume(1, 0, 5), day(2),
            volume(1, 0, 6), volume(2, 1, 7), volume(2, 2, 8), volume(2, 0, 8)]

    def test_a_new_house(self):
        self.asked([open_house()], state(), [0, 0, 0, 0, 0, 0, 0, 0, 0, 0, 0, 0])
        self.answered([open_house(1, 1)], state(), [0, 0, 0, 0, 0, 0, 0, 0, 0])
        self.answered([open_house(1, 8)], state(), [0] * 16)

    def test_ordinary(self):
        self.asked(self.before(), state(), [0, 2, 5, 4, 3, 2, 5, 3, 0, 0, 0, 0, 0, 0], 2)

    def test_failed_suppliers(self):
        before = self.before() + [fail(5), fail(1), fail(6)]
        self.asked(before, state(), [0, 2, 5, 4, 1, 3, 5, 3, 1, 0, 0, 0, 1, 1], 2)

    def test_today(self):
        for today in (1, 77, 20000):
            self.answered(open_with(1) + [day(today)], state(), [0, today, 1] + [0] * 9)
        self.answered(open_with(1) + [day(9), day(9), day(3)], state(), [0, 9, 1] + [0] * 9)

    def test_waiting_requests_and_facts_when_requests_are_confirmed(self):
        before = open_with(3) + [request(1, 2, 7), request(2, 2, 7), day(1), request(3, 2, 8)]
        for calls, requests, waiting, put in (([], 3, 3, 0), ([day(3)], 3, 1, 2), ([day(4)], 3, 0, 3),
                                              ([withdraw(3)], 3, 2, 0), ([object_to(1, 1), day(9)], 3, 0, 2),
                                              ([fail(2)], 3, 0, 0)):
            got = run(before + calls + [state()])[-1]
            self.assertEqual(got[2:6], [3, requests, waiting, put], calls)

    def test_facts_by_all_that_puts_them_on_record(self):
        before = open_with(2) + [correct(1, 5, 20, 2), correct(2, 5, 20, 2), correct(1, 9, 9, 3)]
        self.assertEqual(run(before + [state()])[-1][5], 3)
        self.assertEqual(run(before + [vacate(1, 7), state()])[-1][5], 4)
        self.assertEqual(run(before + [fail(2), state()])[-1][5], 6)

    def test_holidays(self):
        before = open_with(0) + [holiday(3), holiday(5), holiday(3), holiday(0)]
        self.answered(before, state(), [0, 0, 0, 0, 0, 0, 0, 2, 0, 0, 0, 0])
        self.answered(before + [day(50)], state(), [0, 50, 0, 0, 0, 0, 0, 2, 0, 0, 0, 0])

    def test_volumes_told_for_one_day_count_each(self):
        before = open_with(1) + [volume(1, 0, 5), volume(1, 0, 5), volume(1, 1, 5)]
        self.answered(before, state(), [0, 0, 1, 0, 0, 0, 2, 0, 0, 0, 0, 0])

    def test_bills_do_not_show(self):
        self.answered(open_with(1) + [bill(1, 0, 10)], state(), [0, 0, 1] + [0] * 9)

    def test_each_as_many_as_there_may_be(self):
        asked = [call for number in range(1, 65) for call in (request(1, 2, 60), withdraw(number))]
        before = open_with(16) + [holiday(on) for on in range(10, 42)] + asked
        self.answered(before, state(), [0, 0, 16, 64, 0, 0, 0, 32, 0, 0, 0, 0])
        self.answered(open_with(1) + [volume(1, 0, 1)] * 256, state(), [0, 0, 1, 0, 0, 0, 256, 0, 0, 0, 0, 0])
        self.answered(open_with(1) + [correct(1, 0, 0, 1)] * 256, state(), [0, 0, 1, 0, 0, 256, 0, 0, 0, 0, 0, 0])

    def test_not_open(self):
        self.refused([], state(), -2)
        self.refused([open_house(5, 4)], state(), -2)


if __name__ == "__main__":
    unittest.main()
