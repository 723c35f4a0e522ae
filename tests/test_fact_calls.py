"""The calls vacate, correct and fail."""

import unittest

from tests.helper import DAY, POINT, SUPPLIER, Case
from tests.helper import bill, correct, day, fail, object_to, open_with, point, request, run
from tests.helper import vacate, volume, withdraw


class VacateTest(Case):
    def before(self):
        return open_with(2) + [correct(1, 10, 20, 2), correct(1, 15, 17, 3), correct(2, 0, 400, 4)]

    def test_ordinary(self):
        for on, last in ((10, 14), (12, 14), (14, 14), (15, 17), (17, 17), (18, 20), (20, 20)):
            self.answered(self.before(), vacate(1, on), [0, last])
        self.answered(self.before(), vacate(2, 30), [0, 400])

    def test_the_basic_supplier_supplies_from_this_day_to_the_last(self):
        before = self.before() + [vacate(1, 12), day(30)]
        before += [volume(1, on, amount) for on, amount in ((11, 1), (12, 10), (14, 100), (15, 1000), (18, 10000))]
        self.answered(before, bill(1, 0, 30), [0, 110])
        self.answered(before, bill(2, 0, 30), [0, 10001])
        self.answered(before, bill(3, 0, 30), [0, 1000])

    def test_vacated_days_join_the_stretch_beside_them(self):
        before = self.before() + [vacate(1, 18)]
        self.answered(before + [request(1, 4, 18), day(3)], vacate(1, 18), [0, 20000])

    def test_to_the_last_day_of_all(self):
        self.answered(open_with(1) + [request(1, 2, 20), day(3)], vacate(1, 30), [0, 20000])
        self.answered(open_with(1) + [day(19700), correct(1, 19700, 20000, 2)], vacate(1, 20000), [0, 20000])

    def test_ranges(self):
        self.ranges(self.before(), vacate(1, 12), (POINT, DAY))
        self.answered(open_with(16) + [correct(16, 0, 400, 2)], vacate(16, 1), [0, 400])

    def test_no_such_point(self):
        self.refused(self.before(), vacate(3, 12), -5)
        self.refused(self.before(), vacate(16, 12), -5)

    def test_not_after_today(self):
        self.refused(self.before(), vacate(2, 0), -8)
        self.refused(self.before() + [day(12)], vacate(1, 12), -8, 12)
        self.refused(self.before() + [day(12)], vacate(1, 11), -8, 12)
        self.answered(self.before() + [day(12)], vacate(1, 13), [0, 14])
        self.answered(self.before(), vacate(2, 1), [0, 400])

    def test_too_far_ahead(self):
        before = open_with(1) + [request(1, 2, 20), day(3)]
        self.refused(before, vacate(1, 404), -8, 3)
        self.answered(before, vacate(1, 403), [0, 20000])

    def test_the_basic_supplier_supplies_already(self):
        self.refused(self.before(), vacate(1, 9), -9)
        self.refused(self.before(), vacate(1, 21), -9)
        self.refused(self.before() + [vacate(1, 12)], vacate(1, 12), -9)
        self.refused(self.before() + [vacate(1, 12)], vacate(1, 14), -9)
        self.answered(self.before() + [vacate(1, 12)], vacate(1, 11), [0, 11])

    def test_another_basic_supplier(self):
        before = open_with(1, basic=3) + [correct(1, 10, 20, 1), correct(1, 15, 20, 3)]
        self.answered(before, vacate(1, 12), [0, 14])
        self.answered(before, vacate(1, 15), [-9])
        self.answered(before + [vacate(1, 12)], request(1, 1, 12), [0, 1, 3, 2])

    def test_too_many_facts(self):
        filled = open_with(2) + [correct(1, 10, 20, 2)] * 255
        self.answered(filled, vacate(1, 12), [0, 20])
        self.refused(filled + [correct(1, 10, 20, 2)], vacate(1, 12), -4, 0, [request(1, 3, 12)])
        tail = [correct(1, 0, 0, 2), withdraw(1), vacate(1, 12)]
        self.refused(filled + [request(2, 2, 7)], vacate(1, 12), -4, 0, tail)
        self.answered(filled[:-1] + [request(2, 2, 7)], vacate(1, 12), [0, 20])

    def test_point_comes_before_day(self):
        self.refused(self.before(), vacate(3, 0), -5)
        self.refused(self.before(), vacate(3, 401), -5)

    def test_day_comes_before_basic_supplier(self):
        self.refused(self.before(), vacate(1, 0), -8)
        self.refused(self.before(), vacate(1, 401), -8)

    def test_basic_supplier_comes_before_too_many_facts(self):
        self.refused(open_with(1) + [correct(1, 10, 20, 2)] * 256, vacate(1, 9), -9, 0, [vacate(1, 12)])

    def test_minus_1_comes_first(self):
        self.refused(self.before(), vacate(17, 0), -1)
        self.refused(self.before(), vacate(3, -1), -1)


class CorrectTest(Case):
    def test_ordinary(self):
        self.answered(open_with(1), correct(1, 0, 10, 2), [0])

    def test_from_first_to_last(self):
        before = open_with(1) + [day(20), correct(1, 5, 10, 2), correct(1, 7, 7, 3)]
        before += [volume(1, on, 10 ** place) for place, on in enumerate((4, 5, 6, 7, 8, 10, 11))]
        self.answered(before, bill(1, 0, 20), [0, 1000001])
        self.answered(before, bill(2, 0, 20), [0, 110110])
        self.answered(before, bill(3, 0, 20), [0, 1000])

    def test_it_covers_what_was_on_record(self):
        before = open_with(1) + [day(20), correct(1, 7, 7, 3), correct(1, 5, 10, 2), volume(1, 7, 9)]
        self.answered(before, bill(2, 0, 20), [0, 9])
        self.answered(before, bill(3, 0, 20), [0, 0])

    def test_only_this_point(self):
        before = open_with(2) + [correct(2, 0, 10, 2), volume(1, 0, 1), volume(2, 0, 10)]
        self.answered(before, bill(1, 0, 20), [0, 1])
        self.answered(before, bill(2, 0, 20), [0, 10])

    def test_the_same_supplier_again(self):
        self.answered(open_with(1), correct(1, 0, 10, 1), [0])
        self.answered(open_with(1) + [correct(1, 0, 10, 2)], correct(1, 0, 10, 2), [0])

    def test_ranges(self):
        self.ranges(open_with(2), correct(1, 0, 10, 2), (POINT, DAY, DAY, SUPPLIER))
        self.answered(open_with(16, suppliers=8), correct(16, 0, 400, 8), [0])
        self.answered(open_with(1) + [day(19600)], correct(1, 20000, 20000, 2), [0])

    def test_no_such_point(self):
        self.refused(open_with(2), correct(3, 0, 10, 2), -5)
        self.refused(open_with(2), correct(16, 0, 10, 2), -5)

    def test_no_such_supplier(self):
        self.refused(open_with(2), correct(1, 0, 10, 5), -6)
        self.refused(open_with(2), correct(1, 0, 10, 8), -6)
        self.answered(open_with(2), correct(1, 0, 10, 4), [0])

    def test_failed_supplier(self):
        self.refused(open_with(2) + [fail(2)], correct(1, 0, 10, 2), -6)

    def test_last_before_first(self):
        self.refused(open_with(2), correct(1, 10, 9, 2), -8)
        self.answered(open_with(2), correct(1, 10, 10, 2), [0])

    def test_first_too_long_ago(self):
        before = open_with(2) + [day(500)]
        self.refused(before, correct(1, 99, 600, 2), -8, 500)
        self.refused(before, correct(1, 0, 0, 2), -8, 500)
        self.answered(before, correct(1, 100, 600, 2), [0])
        self.answered(before, correct(1, 100, 100, 2), [0])

    def test_last_too_far_ahead(self):
        before = open_with(2) + [day(500)]
        self.refused(before, correct(1, 500, 901, 2), -8, 500)
        self.refused(before, correct(1, 901, 901, 2), -8, 500)
        self.answered(before, correct(1, 500, 900, 2), [0])
        self.answered(before, correct(1, 900, 900, 2), [0])
        self.refused(open_with(2), correct(1, 0, 401, 2), -8)
        self.answered(open_with(2), correct(1, 0, 400, 2), [0])

    def test_too_many_facts(self):
        filled = open_with(2) + [correct(1, 10, 20, 2)] * 255
        self.assertEqual(run(filled)[3:], [[0]] * 255)
        self.answered(filled, correct(1, 10, 20, 3), [0])
        tail = [vacate(1, 12), correct(1, 10, 20, 3), volume(1, 0, 1), bill(1, 0, 20)]
        self.refused(filled + [correct(1, 10, 20, 2)], correct(1, 0, 20, 3), -4, 0, tail)
        self.refused(filled + [request(2, 2, 7)], correct(1, 0, 20, 3), -4, 0, tail)
        self.answered(filled[:-1] + [request(2, 2, 7)], correct(1, 0, 20, 3), [0])

    def test_point_comes_before_supplier(self):
        self.refused(open_with(2), correct(3, 0, 10, 5), -5)
        self.refused(open_with(2), correct(3, 10, 9, 2), -5)

    def test_supplier_comes_before_days(self):
        self.refused(open_with(2), correct(1, 10, 9, 5), -6)
        self.refused(open_with(2) + [fail(2)], correct(1, 0, 401, 2), -6)

    def test_days_come_before_too_many_facts(self):
        filled = open_with(2) + [correct(1, 10, 20, 2)] * 256
        self.refused(filled, correct(1, 10, 9, 2), -8, 0, [vacate(1, 12)])
        self.refused(filled, correct(1, 0, 401, 2), -8, 0, [vacate(1, 12)])

    def test_minus_1_comes_first(self):
        self.refused(open_with(2), correct(3, 10, 9, 9), -1)
        self.refused(open_with(2), correct(1, 10, -1, 2), -1)


class FailTest(Case):
    def spans(self):
        """Supplier 2 has two spans at point 1, none at point 2, and one at point 3."""
        return open_with(4) + [correct(1, 10, 20, 2), correct(1, 15, 17, 3), correct(2, 0, 9, 3), correct(3, 30, 40, 2)]

    def test_ordinary(self):
        self.answered(open_with(1), fail(2), [0, 0])
        self.answered(self.spans(), fail(2), [0, 3])
        self.answered(self.spans(), fail(3), [0, 2])
        self.answered(self.spans(), fail(4), [0, 0])

    def test_the_basic_supplier_takes_over(self):
        before = self.spans() + [fail(2)]
        for at, on in ((1, 10), (1, 14), (1, 18), (1, 20), (3, 30), (3, 40)):
            self.answered(before, vacate(at, on), [-9])
        self.answered(before, vacate(1, 15), [0, 17])
        self.answered(before, vacate(2, 5), [0, 9])
        self.answered(before + [vacate(1, 15), request(1, 4, 9), day(3)], vacate(1, 9), [0, 20000])

    def test_another_basic_supplier(self):
        before = open_with(1, basic=4) + [correct(1, 10, 20, 1), fail(1)]
        self.answered(before, request(1, 2, 15), [0, 1, 4, 2])

    def test_a_span_from_day_0_on(self):
        self.answered(open_with(1, basic=4) + [correct(1, 0, 50, 1)], fail(1), [0, 1])
        self.answered(open_with(1) + [correct(1, 0, 50, 2)], fail(2), [0, 1])
        self.answered(open_with(1) + [correct(1, 0, 0, 2)], fail(2), [0, 0])

    def test_only_days_after_today(self):
        before = open_with(1) + [correct(1, 10, 50, 2), day(20), fail(2), day(60)]
        before += [volume(1, on, 10 ** place) for place, on in enumerate((9, 10, 20, 21, 50, 51))]
        self.answered(before, bill(2, 0, 60), [0, 110])
        self.answered(before, bill(1, 0, 60), [0, 111001])

    def test_spans_that_end_today_or_tomorrow(self):
        before = open_with(1) + [correct(1, 10, 20, 2)]
        self.answered(before + [day(19)], fail(2), [0, 1])
        self.answered(before + [day(20)], fail(2), [0, 0])
        self.answered(before + [day(21)], fail(2), [0, 0])

    def test_spans_that_begin_today_or_tomorrow(self):
        before = open_with(1) + [correct(1, 10, 20, 2)]
        for today, supplied in ((8, 0), (9, 0), (10, 1), (11, 11)):
            calls = [day(today), fail(2), day(30), volume(1, 10, 1), volume(1, 11, 10), volume(1, 12, 100)]
            self.answered(before + calls, bill(2, 0, 30), [0, supplied])

    def test_spans_not_facts_are_counted(self):
        together = [correct(1, 10, 14, 2), correct(1, 15, 20, 2), correct(1, 12, 18, 2)]
        self.answered(open_with(1) + together, fail(2), [0, 1])
        covered = [correct(1, 10, 20, 2), correct(1, 0, 30, 3)]
        self.answered(open_with(1) + covered, fail(2), [0, 0])
        parted = [correct(1, 10, 20, 2), correct(1, 12, 12, 1), correct(1, 14, 14, 3)]
        self.answered(open_with(1) + parted, fail(2), [0, 3])

    def test_a_span_to_the_last_day_of_all(self):
        before = open_with(1) + [request(1, 2, 20), day(3)]
        self.answered(before, fail(2), [0, 1])
        self.answered(before + [fail(2), request(1, 3, 30), day(8)], vacate(1, 30), [0, 20000])
        self.answered(before + [day(20000)], fail(2), [0, 0])
        self.answered(before + [day(19999)], fail(2), [0, 1])

    def test_its_waiting_requests_are_dropped(self):
        before = open_with(4) + [correct(3, 0, 100, 2), request(1, 2, 20), request(2, 2, 20), request(3, 3, 20)]
        self.answered(before, day(3), [0, 3])
        self.answered(before + [fail(2)], day(3), [0, 1])
        for number in (1, 2):
            self.answered(before + [fail(2)], withdraw(number), [-7])
        self.answered(before + [fail(2)], withdraw(3), [0])
        self.answered(before + [fail(2)], request(1, 3, 20), [0, 4, 1, 2])
        self.answered(before + [fail(2)], request(3, 4, 20), [-10])

    def test_with_waiting_requests_and_several_spans(self):
        before = self.spans() + [request(2, 2, 50), request(4, 3, 50), fail(2)]
        self.assertEqual(run(before)[-1], [0, 3])
        self.answered(before, withdraw(1), [-7])
        self.answered(before, day(3), [0, 1])
        self.answered(before + [day(3)], vacate(2, 50), [-9])
        self.answered(before + [day(3)], vacate(4, 50), [0, 20000])

    def test_requests_that_ended_before_stay_as_they_are(self):
        before = open_with(2) + [request(1, 2, 20), day(3), request(2, 2, 20), object_to(2, 1)]
        self.answered(before, fail(2), [0, 1])
        self.answered(before + [fail(2)], object_to(2, 1), [-7])

    def test_ranges(self):
        self.ranges(self.spans(), fail(2), (SUPPLIER,))
        self.answered(open_with(1, suppliers=8), fail(8), [0, 0])
        self.answered(open_with(1, basic=2), fail(1), [0, 0])

    def test_no_such_supplier(self):
        self.refused(self.spans(), fail(5), -6)
        self.refused(self.spans(), fail(8), -6)

    def test_failed_already(self):
        self.refused(self.spans() + [fail(2)], fail(2), -6)
        self.answered(self.spans() + [fail(2)], fail(3), [0, 2])

    def test_the_basic_one(self):
        self.refused(self.spans(), fail(1), -9)
        self.refused(open_with(2, basic=4), fail(4), -9)

    def test_too_many_facts(self):
        filled = open_with(2) + [correct(1, 10, 20, 2)] * 255
        self.answered(filled, fail(2), [0, 1])
        tail = [correct(1, 10, 20, 2), request(1, 2, 30), vacate(1, 12), fail(3)]
        self.refused(filled + [correct(1, 10, 20, 2)], fail(2), -4, 0, tail)
        self.answered(filled + [correct(1, 10, 20, 2)], fail(3), [0, 0])

    def test_too_many_facts_over_several_spans_and_points(self):
        spans = [correct(1, 10, 20, 2), correct(1, 15, 15, 3), correct(2, 10, 20, 2)]
        filled = open_with(2) + [correct(1, 0, 0, 4)] * 250 + spans
        self.answered(filled, fail(2), [0, 3])
        self.refused(filled + [correct(1, 0, 0, 4)], fail(2), -4, 0, [vacate(1, 12), vacate(2, 12), fail(2)])

    def test_its_own_waiting_requests_do_not_count(self):
        filled = open_with(3) + [correct(1, 10, 20, 2)] * 254
        self.answered(filled + [request(2, 2, 30), request(3, 2, 30)], fail(2), [0, 1])
        self.answered(filled + [request(2, 2, 30), request(3, 3, 30)], fail(2), [0, 1])
        self.answered(filled + [correct(1, 10, 20, 2), request(3, 2, 30)], fail(2), [0, 1])
        tail = [withdraw(1), fail(2)]
        self.refused(filled + [correct(1, 10, 20, 2), request(3, 3, 30)], fail(2), -4, 0, tail)
        self.refused(filled + [request(1, 1, 15), request(3, 3, 30)], fail(2), -4, 0, tail)

    def test_the_places_of_dropped_requests_are_free_again(self):
        filled = open_with(2) + [correct(1, 0, 0, 3)] * 255 + [request(2, 2, 30)]
        self.answered(filled, correct(1, 0, 0, 3), [-4])
        self.answered(filled + [fail(2)], correct(1, 0, 0, 3), [0])

    def test_the_basic_one_comes_before_too_many_facts(self):
        self.refused(open_with(2) + [correct(1, 10, 20, 2)] * 256, fail(1), -9, 0, [fail(2), vacate(1, 12)])

    def test_failed_already_comes_before_too_many_facts(self):
        filled = open_with(2) + [fail(3)] + [correct(1, 10, 20, 2)] * 256
        self.refused(filled, fail(3), -6, 0, [fail(2), vacate(1, 12)])
        self.refused(filled, fail(5), -6, 0, [fail(2), vacate(1, 12)])

    def test_several_may_fail(self):
        before = open_with(1) + [correct(1, 10, 20, 2), correct(1, 21, 30, 3)]
        self.answered(before + [fail(2)], fail(3), [0, 1])
        self.answered(before + [fail(2), fail(3), fail(4), point()], request(2, 1, 20), [-9])
        self.answered(before + [fail(2), fail(3)], correct(1, 10, 20, 3), [-6])


if __name__ == "__main__":
    unittest.main()
