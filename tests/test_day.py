"""The call day, and the requests that it confirms."""

import unittest

from supplierdays.house import House, Request
from supplierdays.request_calls import go_to_day
from tests.helper import DAY, Case
from tests.helper import bill, correct, day, fail, holiday, object_to, open_house, open_with, request, run
from tests.helper import vacate, volume, withdraw


class DayTest(Case):
    def test_ordinary(self):
        self.all_answered([(open_house(), [0]), (day(1), [0, 0]), (day(30), [0, 0])])

    def test_it_is_today(self):
        before = open_with(1) + [day(12)]
        self.answered(before, volume(1, 12, 1), [0])
        self.answered(before, volume(1, 13, 1), [-8])

    def test_ranges(self):
        self.ranges(open_with(2), day(3), (DAY,))
        self.answered(open_with(2), day(20000), [0, 0])
        self.answered(open_with(2), day(1), [0, 0])

    def test_not_after_today(self):
        self.refused(open_with(2) + [request(1, 2, 7)], day(0), -8)
        self.refused(open_with(2) + [request(1, 2, 7), day(1)], day(1), -8, 1)
        self.refused(open_with(2) + [request(1, 2, 7), day(2)], day(1), -8, 2)
        self.answered(open_with(2) + [day(20000)], day(20000), [-8])

    def test_minus_1_comes_first(self):
        self.refused(open_with(2) + [day(20000)], day(20001), -1, 19000)
        self.refused(open_with(2), day(-1), -1)


class ConfirmTest(Case):
    def test_on_the_day_after_the_deadline(self):
        before = open_with(1) + [request(1, 2, 7)]
        self.all_answered([(call, answer) for call, answer in zip(before, ([0], [0, 1], [0, 1, 1, 2]))] + [
            (day(1), [0, 0]),
            (day(2), [0, 0]),
            (day(3), [0, 1]),
            (day(4), [0, 0]),
        ])

    def test_the_fact_is_from_the_start_to_the_last_day(self):
        before = open_with(1) + [request(1, 2, 9), day(3)]
        self.answered(before, vacate(1, 8), [-9])
        self.answered(before, vacate(1, 9), [0, 20000])
        before += [day(20000), volume(1, 8, 1), volume(1, 9, 10), volume(1, 20000, 100)]
        self.answered(before, bill(1, 0, 20000), [0, 1])
        self.answered(before, bill(2, 0, 20000), [0, 110])

    def test_the_fact_ends_with_the_stretch(self):
        spans = [correct(1, 10, 20, 3), correct(1, 15, 17, 4)]
        for start, last in ((9, 9), (10, 14), (14, 14), (15, 17), (16, 17), (18, 20), (20, 20), (21, 20000)):
            before = open_with(1) + spans + [request(1, 2, start), day(3)]
            self.answered(before, vacate(1, start), [0, last])

    def test_a_stretch_ends_where_the_supplier_changes_not_where_a_fact_ends(self):
        spans = [correct(1, 10, 14, 3), correct(1, 15, 20, 3), correct(1, 21, 25, 1), correct(1, 12, 13, 3)]
        for start, last in ((10, 20), (15, 20), (21, 20000)):
            before = open_with(1) + spans + [request(1, 2, start), day(3)]
            self.answered(before, vacate(1, start), [0, last])

    def test_a_stretch_may_have_changed_since_the_asking(self):
        before = open_with(1) + [request(1, 2, 9), correct(1, 30, 40, 3), day(3)]
        self.answered(before, vacate(1, 9), [0, 29])
        before = open_with(1) + [correct(1, 30, 40, 3), request(1, 2, 9), correct(1, 30, 40, 1), day(3)]
        self.answered(before, vacate(1, 9), [0, 20000])

    def test_a_fact_of_the_new_supplier_within_the_stretch(self):
        before = open_with(1) + [request(1, 2, 9), correct(1, 8, 20, 2), day(3)]
        self.answered(before, vacate(1, 8), [0, 20])
        self.answered(before, vacate(1, 9), [0, 20])

    def test_one_confirmed_before_changes_the_stretch_of_the_next(self):
        before = open_with(1) + [request(1, 2, 50), day(3), request(1, 3, 20), day(8)]
        self.answered(before, vacate(1, 20), [0, 49])
        self.answered(before, vacate(1, 50), [0, 20000])

    def test_several_at_once(self):
        asked = [request(1, 2, 7), request(2, 3, 8), day(1), request(3, 4, 9), day(2), request(4, 2, 10)]
        self.assertEqual(run(open_with(4) + asked)[5:], [
            [0, 1, 1, 2], [0, 2, 1, 2], [0, 0], [0, 3, 1, 3], [0, 0], [0, 4, 1, 4]])
        for today, confirmed in ((3, 2), (4, 3), (5, 4), (400, 4)):
            self.answered(open_with(4) + asked, day(today), [0, confirmed])
        volumes = [day(10)] + [volume(at, on, 10 ** at) for at in range(1, 5) for on in (6, 7, 8, 9, 10)]
        before = open_with(4) + asked + volumes
        self.answered(before, bill(2, 0, 10), [0, 40 + 10000])
        self.answered(before, bill(3, 0, 10), [0, 300])
        self.answered(before, bill(4, 0, 10), [0, 2000])
        self.answered(before, bill(1, 0, 10), [0, 10 + 200 + 3000 + 40000])

    def test_only_the_waiting_ones(self):
        asked = [request(at, 2, 20) for at in range(1, 4)] + [request(4, 3, 20)]
        before = open_with(4) + asked + [object_to(1, 1), withdraw(2), fail(3)]
        self.answered(before, day(3), [0, 1])
        for at in (1, 2, 4):
            self.answered(before + [day(3)], vacate(at, 20), [-9])
        self.answered(before + [day(3)], vacate(3, 20), [0, 20000])

    def test_each_once(self):
        before = open_with(2) + [request(1, 2, 20), day(3), request(2, 2, 20), vacate(1, 20)]
        self.answered(before, day(8), [0, 1])
        self.answered(before + [day(8)], vacate(1, 20), [-9])

    def test_holidays_told_later_leave_the_deadline_as_it_is(self):
        before = open_with(2) + [request(1, 2, 20), holiday(1), holiday(2)]
        self.answered(before, request(2, 2, 20), [0, 2, 1, 4])
        self.answered(before + [request(2, 2, 20)], day(2), [0, 0])
        self.answered(before + [request(2, 2, 20)], day(3), [0, 1])
        self.answered(before + [request(2, 2, 20)], day(4), [0, 1])
        self.answered(before + [request(2, 2, 20)], day(5), [0, 2])

    def test_holidays_told_later_leave_the_start_as_it_is(self):
        before = open_with(1) + [request(1, 2, 7)] + [holiday(number) for number in range(1, 30)] + [day(3)]
        self.answered(before, vacate(1, 6), [-9])
        self.answered(before, vacate(1, 7), [0, 20000])

    def test_far_ahead_in_one_step(self):
        before = open_with(1) + [request(1, 2, 7), day(20000), volume(1, 6, 1), volume(1, 7, 2)]
        self.answered(before, bill(1, 0, 20000), [0, 1])
        self.answered(before, bill(2, 0, 20000), [0, 2])

    def test_a_full_record_has_room_for_those_that_wait(self):
        before = open_with(2) + [request(1, 2, 7), request(2, 3, 7)] + [correct(1, 0, 0, 2)] * 254
        self.answered(before, correct(1, 0, 0, 2), [-4])
        self.answered(before, day(3), [0, 2])
        self.answered(before + [day(3)], correct(1, 3, 3, 2), [-4])


class OrderTest(unittest.TestCase):
    """Calls alone never leave two requests for one point waiting, so the order is looked at in the house itself."""

    def facts_behind(self, requests, today):
        house = House()
        house.opened = True
        house.basic = 1
        house.suppliers = 4
        house.points = 2
        house.requests.extend(requests)
        answer = go_to_day(house, today)
        facts = [(fact.point, fact.first, fact.last, fact.supplier, fact.known_from) for fact in house.facts]
        return answer, facts

    def test_earliest_deadline_first(self):
        requests = [Request(1, 2, 50, 1, 9), Request(1, 3, 30, 1, 8)]
        self.assertEqual(self.facts_behind(requests, 10), ([0, 2], [(1, 30, 20000, 3, 9), (1, 50, 20000, 2, 10)]))

    def test_of_one_deadline_by_number(self):
        requests = [Request(1, 2, 50, 1, 8), Request(1, 3, 30, 1, 8)]
        self.assertEqual(self.facts_behind(requests, 10), ([0, 2], [(1, 50, 20000, 2, 9), (1, 30, 49, 3, 9)]))

    def test_over_several_points(self):
        requests = [Request(2, 2, 50, 1, 9), Request(1, 3, 30, 1, 9), Request(2, 4, 40, 1, 7), Request(1, 4, 45, 1, 10)]
        self.assertEqual(self.facts_behind(requests, 10), (
            [0, 3], [(2, 40, 20000, 4, 8), (2, 50, 20000, 2, 10), (1, 30, 20000, 3, 10)]))

    def test_calls_put_them_on_record_known_from_the_day_after_the_deadline(self):
        house = House()
        house.opened = True
        house.basic = 1
        house.suppliers = 4
        house.points = 1
        house.requests.append(Request(1, 2, 50, 1, 9))
        go_to_day(house, 100)
        self.assertEqual([fact.known_from for fact in house.facts], [10])
        self.assertEqual(house.today, 100)


if __name__ == "__main__":
    unittest.main()
