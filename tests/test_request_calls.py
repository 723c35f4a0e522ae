"""The calls request, object, withdraw and requestIs."""

import unittest

from tests.helper import DAY, POINT, REQUEST, SUPPLIER, Case
from tests.helper import bill, correct, day, fail, holiday, object_to, open_with, point, request, request_is, run
from tests.helper import vacate, volume, withdraw


def asked_and_withdrawn(times):
    """So many requests for point 1, none of which waits at the end."""
    calls = []
    for number in range(1, times + 1):
        calls += [request(1, 2, 7), withdraw(number)]
    return calls


class RequestTest(Case):
    def test_ordinary(self):
        self.all_answered(list(zip(open_with(2), ([0], [0, 1], [0, 2]))) + [
            (request(1, 2, 7), [0, 1, 1, 2]),
            (request(2, 3, 100), [0, 2, 1, 2]),
        ])

    def test_old_supplier_is_the_one_on_the_start_day(self):
        before = open_with(1) + [correct(1, 20, 30, 3)]
        for start, old in ((19, 1), (20, 3), (30, 3), (31, 1)):
            self.answered(before, request(1, 2, start), [0, 1, old, 2])

    def test_the_fact_put_on_record_last_says_who_it_is(self):
        before = open_with(1) + [correct(1, 20, 30, 3), correct(1, 25, 40, 4), correct(1, 28, 28, 1)]
        for start, old in ((24, 3), (25, 4), (27, 4), (28, 1), (29, 4), (40, 4), (41, 1)):
            self.answered(before, request(1, 2, start), [0, 1, old, 2])

    def test_facts_of_another_point_do_not_count(self):
        before = open_with(2) + [correct(2, 20, 30, 3)]
        self.answered(before, request(1, 2, 25), [0, 1, 1, 2])
        self.answered(before, request(2, 2, 25), [0, 1, 3, 2])

    def test_deadline_passes_free_days(self):
        for today, deadline in ((1, 3), (2, 4), (3, 7), (4, 8), (5, 8), (6, 8), (7, 9)):
            self.answered(open_with(1) + [day(today)], request(1, 2, 50), [0, 1, 1, deadline])

    def test_longest_time_for_objections(self):
        self.answered(open_with(1, objection_time=29, notice=30), request(1, 2, 42), [0, 1, 1, 39])
        self.answered(open_with(1, objection_time=29, notice=30), request(1, 2, 41), [-8])
        self.answered(open_with(1, objection_time=1, notice=2), request(1, 2, 2), [0, 1, 1, 1])

    def test_near_the_last_day(self):
        before = open_with(1, objection_time=5, notice=6) + [day(19992)]
        self.answered(before, request(1, 2, 20000), [0, 1, 1, 19999])
        before = open_with(1, objection_time=4, notice=5) + [day(19994)]
        self.answered(before, request(1, 2, 20000), [-8])

    def test_ranges(self):
        self.ranges(open_with(2), request(1, 2, 7), (POINT, SUPPLIER, DAY))
        self.answered(open_with(16, suppliers=8), request(16, 8, 7), [0, 1, 1, 2])
        self.answered(open_with(1) + [day(19700)], request(1, 2, 20000), [0, 1, 1, 19702])

    def test_no_such_point(self):
        self.refused(open_with(2), request(3, 2, 7), -5)
        self.refused(open_with(2), request(16, 2, 7), -5)
        self.refused(open_with(0), request(1, 2, 7), -5)

    def test_no_such_supplier(self):
        self.refused(open_with(2), request(1, 5, 7), -6)
        self.refused(open_with(2), request(1, 8, 7), -6)
        self.answered(open_with(2), request(1, 4, 7), [0, 1, 1, 2])

    def test_failed_supplier(self):
        self.refused(open_with(2) + [fail(2)], request(1, 2, 7), -6)
        self.answered(open_with(2) + [fail(2)], request(1, 3, 7), [0, 1, 1, 2])

    def test_start_before_the_notice_is_over(self):
        self.refused(open_with(2), request(1, 2, 6), -8)
        self.refused(open_with(2), request(1, 2, 0), -8)
        self.refused(open_with(2) + [day(3)], request(1, 2, 9), -8, 3)
        self.answered(open_with(2) + [day(3)], request(1, 2, 10), [0, 1, 1, 7])

    def test_start_may_be_a_free_day(self):
        self.answered(open_with(1), request(1, 2, 12), [0, 1, 1, 2])

    def test_start_too_far_ahead(self):
        self.refused(open_with(2), request(1, 2, 401), -8)
        self.answered(open_with(2), request(1, 2, 400), [0, 1, 1, 2])
        self.refused(open_with(2) + [day(10)], request(1, 2, 411), -8, 10)
        self.answered(open_with(2) + [day(10)], request(1, 2, 410), [0, 1, 1, 14])

    def test_another_one_is_waiting(self):
        before = open_with(2) + [request(1, 2, 7)]
        self.refused(before, request(1, 3, 50), -10)
        self.answered(before, request(2, 3, 50), [0, 2, 1, 2])

    def test_another_one_waits_no_more(self):
        before = open_with(2) + [request(1, 2, 7)]
        self.answered(before + [object_to(1, 1)], request(1, 3, 50), [0, 2, 1, 2])
        self.answered(before + [withdraw(1)], request(1, 3, 50), [0, 2, 1, 2])
        self.answered(before + [fail(2)], request(1, 3, 50), [0, 2, 1, 2])
        self.answered(before + [day(2)], request(1, 3, 50), [-10])
        self.answered(before + [day(3)], request(1, 3, 50), [0, 2, 2, 7])

    def test_the_supplier_supplies_already(self):
        self.refused(open_with(2), request(1, 1, 7), -9)
        before = open_with(2) + [correct(1, 20, 30, 2)]
        self.refused(before, request(1, 2, 20), -9)
        self.refused(before, request(1, 2, 30), -9)
        self.answered(before, request(1, 2, 19), [0, 1, 1, 2])
        self.answered(before, request(1, 2, 31), [0, 1, 1, 2])
        self.answered(before, request(1, 1, 25), [0, 1, 2, 2])

    def test_greatest_number(self):
        got = run(open_with(1) + asked_and_withdrawn(64))
        self.assertEqual(got[2:], [answer for number in range(1, 65) for answer in ([0, number, 1, 2], [0])])
        self.refused(open_with(1) + asked_and_withdrawn(64), request(1, 2, 7), -4)
        self.answered(open_with(1) + asked_and_withdrawn(63), request(1, 2, 7), [0, 64, 1, 2])

    def test_it_keeps_a_place_among_the_facts(self):
        tail = [request(2, 2, 7), correct(1, 0, 0, 3)]
        filled = open_with(3) + [correct(1, 0, 0, 2)] * 255
        self.answered(filled, request(1, 2, 7), [0, 1, 1, 2])
        self.refused(filled + [correct(1, 0, 0, 2)], request(1, 2, 7), -4, 0, tail)
        self.refused(filled + [request(2, 2, 7)], request(1, 2, 7), -4, 0, tail + [withdraw(1)] + tail)
        self.answered(filled[:-1] + [request(2, 2, 7)], request(1, 2, 7), [0, 2, 1, 2])

    def test_point_comes_before_supplier(self):
        self.refused(open_with(2), request(3, 5, 7), -5)
        self.refused(open_with(2) + [fail(2)], request(3, 2, 0), -5)

    def test_supplier_comes_before_start(self):
        self.refused(open_with(2), request(1, 5, 6), -6)
        self.refused(open_with(2) + [fail(2)], request(1, 2, 401), -6)

    def test_start_comes_before_waiting(self):
        self.refused(open_with(2) + [request(1, 2, 7)], request(1, 3, 6), -8)
        self.refused(open_with(2) + [request(1, 2, 7)], request(1, 1, 401), -8)

    def test_waiting_comes_before_supplying_already(self):
        self.refused(open_with(2) + [request(1, 2, 7)], request(1, 1, 7), -10)

    def test_supplying_already_comes_before_too_many(self):
        self.refused(open_with(1) + asked_and_withdrawn(64), request(1, 1, 7), -9)
        filled = open_with(1) + [correct(1, 0, 0, 2)] * 256
        self.refused(filled, request(1, 1, 7), -9, 0, [request(1, 2, 7)])

    def test_waiting_comes_before_too_many(self):
        before = open_with(2) + asked_and_withdrawn(63) + [request(1, 2, 7)]
        self.refused(before, request(1, 3, 7), -10)
        self.refused(before, request(2, 3, 7), -4)

    def test_minus_1_comes_first(self):
        self.refused(open_with(2), request(17, 9, 20001), -1)
        self.refused(open_with(2), request(3, 5, -1), -1)


class ObjectTest(Case):
    def before(self):
        return open_with(3) + [correct(2, 0, 400, 3), request(1, 2, 7), request(2, 2, 7)]

    def test_ordinary(self):
        self.answered(self.before(), object_to(1, 1), [0])
        self.answered(self.before(), object_to(2, 3), [0])

    def test_it_is_not_confirmed(self):
        self.answered(self.before(), day(10), [0, 2])
        self.answered(self.before() + [object_to(1, 1)], day(10), [0, 1])
        self.answered(self.before() + [object_to(1, 1), day(10)], request(1, 3, 50), [0, 3, 1, 14])
        self.answered(self.before() + [object_to(1, 1), day(10)], request(2, 3, 50), [0, 3, 2, 14])

    def test_on_the_last_day(self):
        self.answered(self.before() + [day(2)], object_to(1, 1), [0])
        self.refused(self.before() + [day(3)], object_to(1, 1), -7, 3)

    def test_ranges(self):
        self.ranges(self.before(), object_to(1, 1), (REQUEST, SUPPLIER))
        before = open_with(1, suppliers=8, basic=8) + asked_and_withdrawn(63) + [request(1, 2, 7)]
        self.answered(before, object_to(64, 8), [0])

    def test_no_such_request(self):
        self.refused(self.before(), object_to(3, 1), -7)
        self.refused(self.before(), object_to(64, 1), -7)
        self.refused(open_with(1), object_to(1, 1), -7)

    def test_it_waits_no_more(self):
        for ended in (object_to(1, 1), withdraw(1), fail(2), day(3)):
            self.refused(self.before() + [ended], object_to(1, 1), -7, 3)

    def test_no_such_supplier(self):
        self.refused(self.before(), object_to(1, 5), -6)
        self.refused(self.before(), object_to(1, 8), -6)

    def test_failed_supplier(self):
        self.refused(self.before() + [fail(3)], object_to(2, 3), -6)
        self.refused(self.before() + [fail(4)], object_to(2, 4), -6)

    def test_not_the_old_supplier(self):
        self.refused(self.before(), object_to(1, 2), -11)
        self.refused(self.before(), object_to(1, 3), -11)
        self.refused(self.before(), object_to(2, 1), -11)

    def test_the_old_supplier_stays_the_one_of_the_day_of_asking(self):
        before = self.before() + [correct(1, 0, 400, 4)]
        self.answered(before, object_to(1, 1), [0])
        self.refused(before, object_to(1, 4), -11)

    def test_request_comes_before_supplier(self):
        self.refused(self.before(), object_to(3, 5), -7)
        self.refused(self.before() + [fail(2)], object_to(1, 2), -7)
        self.refused(self.before() + [withdraw(1)], object_to(1, 3), -7)

    def test_failed_comes_before_not_the_old_one(self):
        self.refused(self.before() + [fail(4)], object_to(1, 4), -6)
        self.refused(self.before(), object_to(1, 5), -6)

    def test_minus_1_comes_first(self):
        self.refused(self.before(), object_to(65, 5), -1)
        self.refused(self.before(), object_to(3, 9), -1)


class WithdrawTest(Case):
    def before(self):
        return open_with(3) + [request(1, 2, 7), request(2, 3, 7)]

    def test_ordinary(self):
        self.answered(self.before(), withdraw(1), [0])
        self.answered(self.before(), withdraw(2), [0])

    def test_it_is_not_confirmed(self):
        self.answered(self.before(), day(10), [0, 2])
        self.answered(self.before() + [withdraw(1)], day(10), [0, 1])
        before = self.before() + [withdraw(1), day(10), volume(1, 10, 5), volume(2, 10, 6)]
        self.answered(before, bill(1, 0, 10), [0, 5])
        self.answered(before, bill(2, 0, 10), [0, 0])
        self.answered(before, bill(3, 0, 10), [0, 6])

    def test_on_the_last_day(self):
        self.answered(self.before() + [day(2)], withdraw(1), [0])
        self.refused(self.before() + [day(3)], withdraw(1), -7, 3)

    def test_ranges(self):
        self.ranges(self.before(), withdraw(1), (REQUEST,))
        self.answered(open_with(1) + asked_and_withdrawn(63) + [request(1, 2, 7)], withdraw(64), [0])

    def test_no_such_request(self):
        self.refused(self.before(), withdraw(3), -7)
        self.refused(self.before(), withdraw(64), -7)
        self.refused(open_with(1), withdraw(1), -7)

    def test_it_waits_no_more(self):
        for ended in (object_to(1, 1), withdraw(1), fail(2), day(3)):
            self.refused(self.before() + [ended], withdraw(1), -7, 3)

    def test_the_place_among_the_facts_is_free_again(self):
        before = open_with(2) + [correct(1, 0, 0, 2)] * 255 + [request(2, 2, 7)]
        self.answered(before, correct(1, 0, 0, 3), [-4])
        self.answered(before + [withdraw(1)], correct(1, 0, 0, 3), [0])
        self.answered(before + [object_to(1, 1)], correct(1, 0, 0, 3), [0])
        self.answered(before + [day(3)], correct(1, 0, 0, 3), [-4])
        self.answered(before + [day(3)], vacate(2, 9), [-4])


class RequestIsTest(Case):
    def before(self):
        """Five requests, each of which stands in another way."""
        return open_with(5) + [
            correct(2, 20, 30, 3), request(1, 2, 7), day(3), request(2, 4, 25), request(3, 3, 11), request(4, 4, 12),
            request(5, 2, 403), object_to(3, 1), withdraw(4), fail(2)]

    def test_ordinary(self):
        self.asked(open_with(2) + [request(2, 3, 9)], request_is(1), [0, 2, 3, 9, 1, 2, 0])

    def test_how_it_stands(self):
        self.assertEqual([answer[0] for answer in run(self.before())], [0] * len(self.before()))
        self.asked(self.before(), request_is(1), [0, 1, 2, 7, 1, 2, 1], 3)
        self.asked(self.before(), request_is(2), [0, 2, 4, 25, 3, 7, 0], 3)
        self.asked(self.before(), request_is(3), [0, 3, 3, 11, 1, 7, 2], 3)
        self.asked(self.before(), request_is(4), [0, 4, 4, 12, 1, 7, 3], 3)
        self.asked(self.before(), request_is(5), [0, 5, 2, 403, 1, 7, 4], 3)

    def test_waiting_to_the_deadline_and_confirmed_the_day_after(self):
        before = open_with(1) + [request(1, 2, 7)]
        self.answered(before + [day(2)], request_is(1), [0, 1, 2, 7, 1, 2, 0])
        self.answered(before + [day(3)], request_is(1), [0, 1, 2, 7, 1, 2, 1])
        self.answered(before + [day(20000)], request_is(1), [0, 1, 2, 7, 1, 2, 1])

    def test_what_ended_stays_as_it_is(self):
        for ended, standing in ((object_to(1, 1), 2), (withdraw(1), 3), (fail(2), 4), (day(3), 1)):
            for later in (day(30), fail(2), withdraw(1), object_to(1, 1)):
                before = open_with(1) + [request(1, 2, 7), ended, later]
                self.answered(before, request_is(1), [0, 1, 2, 7, 1, 2, standing])

    def test_holidays_and_facts_told_later_change_nothing(self):
        before = open_with(1) + [request(1, 2, 7), holiday(1), holiday(7), correct(1, 0, 20, 3), fail(3)]
        self.answered(before, request_is(1), [0, 1, 2, 7, 1, 2, 0])

    def test_only_those_of_the_failed_supplier_as_the_new_one_are_dropped(self):
        before = open_with(2) + [correct(1, 0, 400, 3), request(1, 2, 7), request(2, 3, 7), fail(3)]
        self.answered(before, request_is(1), [0, 1, 2, 7, 3, 2, 0])
        self.answered(before, request_is(2), [0, 2, 3, 7, 1, 2, 4])

    def test_a_refused_request_has_no_number(self):
        before = open_with(2) + [request(1, 2, 7), request(1, 3, 7), request(2, 3, 7)]
        self.answered(before, request_is(2), [0, 2, 3, 7, 1, 2, 0])
        self.answered(before, request_is(3), [-7])

    def test_a_deadline_far_behind(self):
        before = open_with(1, objection_time=29, notice=30) + [request(1, 2, 42)]
        self.answered(before, request_is(1), [0, 1, 2, 42, 1, 39, 0])

    def test_ranges(self):
        self.ranges(self.before(), request_is(2), (REQUEST,))
        self.answered(open_with(1) + asked_and_withdrawn(64), request_is(64), [0, 1, 2, 7, 1, 2, 3])
        self.answered(open_with(1) + asked_and_withdrawn(64), request_is(1), [0, 1, 2, 7, 1, 2, 3])

    def test_no_such_request(self):
        self.refused(self.before(), request_is(6), -7, 3)
        self.refused(self.before(), request_is(64), -7, 3)
        self.refused(open_with(1), request_is(1), -7)
        self.refused(open_with(1) + asked_and_withdrawn(63), request_is(64), -7)


class WaitingWhileOtherThingsHappenTest(Case):
    def test_a_new_point_and_holidays_leave_it_waiting(self):
        before = open_with(1) + [request(1, 2, 7), point(), holiday(1), volume(1, 0, 1), bill(1, 0, 0)]
        self.answered(before, request(1, 3, 20), [-10])
        self.answered(before, day(3), [0, 1])

    def test_its_old_supplier_may_fail(self):
        before = open_with(1) + [correct(1, 0, 400, 3), request(1, 2, 7), fail(3)]
        self.answered(before, day(3), [0, 1])
        self.answered(before + [day(3)], vacate(1, 7), [0, 20000])


if __name__ == "__main__":
    unittest.main()
