"""The calls volume and bill."""

import unittest

from tests.helper import DAY, POINT, SUPPLIER, Case
from tests.helper import bill, correct, day, fail, open_with, request, run, vacate, volume

AMOUNT = (0, 10 ** 9)


class VolumeTest(Case):
    def test_ordinary(self):
        self.answered(open_with(1), volume(1, 0, 5), [0])

    def test_it_is_what_is_billed(self):
        before = open_with(2) + [day(9), volume(1, 3, 5), volume(2, 3, 70), volume(1, 9, 600)]
        self.answered(before, bill(1, 0, 9), [0, 675])

    def test_the_one_told_last_holds(self):
        before = open_with(1) + [volume(1, 0, 5), volume(1, 0, 7)]
        self.answered(before, bill(1, 0, 0), [0, 7])
        self.answered(before + [day(4), volume(1, 0, 3)], bill(1, 0, 0), [0, 3])
        self.answered(before + [volume(1, 0, 0)], bill(1, 0, 0), [0, 0])

    def test_ranges(self):
        self.ranges(open_with(2), volume(1, 0, 5), (POINT, DAY, AMOUNT))
        self.answered(open_with(1), volume(1, 0, 0), [0])
        self.answered(open_with(1), volume(1, 0, 10 ** 9), [0])
        self.answered(open_with(16) + [day(20000)], volume(16, 20000, 1), [0])

    def test_no_such_point(self):
        self.refused(open_with(2), volume(3, 0, 5), -5)
        self.refused(open_with(2), volume(16, 0, 5), -5)

    def test_day_after_today(self):
        self.refused(open_with(2), volume(1, 1, 5), -8)
        self.refused(open_with(2) + [day(10)], volume(1, 11, 5), -8, 10)
        self.refused(open_with(2) + [day(10)], volume(1, 20000, 5), -8, 10)
        self.answered(open_with(2) + [day(10)], volume(1, 10, 5), [0])
        self.answered(open_with(2) + [day(10)], volume(1, 0, 5), [0])

    def test_greatest_number(self):
        told = [volume(1, on, 10 ** 9) for on in range(256)]
        before = open_with(1) + [day(300)]
        self.assertEqual(run(before + told)[3:], [[0]] * 256)
        tail = [bill(1, 0, 400), volume(1, 0, 1), bill(1, 0, 400)]
        self.refused(before + told, volume(1, 256, 5), -4, 300, tail)
        self.refused(before + told, volume(1, 0, 5), -4, 300, tail)
        self.answered(before + told, bill(1, 0, 400), [0, 256 * 10 ** 9])

    def test_those_for_one_day_count_each(self):
        told = [volume(1, 0, amount) for amount in range(256)]
        self.refused(open_with(1) + told, volume(1, 0, 999), -4, 0, [bill(1, 0, 0)])
        self.answered(open_with(1) + told, bill(1, 0, 0), [0, 255])
        self.answered(open_with(1) + told[1:], volume(1, 0, 999), [0])

    def test_point_comes_before_day(self):
        self.refused(open_with(2), volume(3, 1, 5), -5)

    def test_day_comes_before_too_many(self):
        filled = open_with(2) + [volume(1, 0, 1)] * 256
        self.refused(filled, volume(1, 1, 5), -8, 0, [bill(1, 0, 400)])
        self.refused(filled, volume(3, 1, 5), -5, 0, [bill(1, 0, 400)])

    def test_minus_1_comes_first(self):
        self.refused(open_with(2), volume(3, 1, -1), -1)
        self.refused(open_with(2), volume(17, 1, 5), -1)


class BillTest(Case):
    def before(self):
        return open_with(2) + [day(10), volume(1, 0, 1), volume(1, 4, 10), volume(1, 10, 100), volume(2, 4, 1000)]

    def test_ordinary(self):
        self.answered(self.before(), bill(1, 0, 10), [0, 1111])
        self.answered(self.before(), bill(2, 0, 10), [0, 0])

    def test_from_first_to_last(self):
        for first, last, expected in ((0, 9, 1011), (1, 10, 1110), (4, 4, 1010), (5, 9, 0), (10, 10, 100), (0, 0, 1)):
            self.answered(self.before(), bill(1, first, last), [0, expected])
        self.answered(self.before(), bill(1, 0, 20000), [0, 1111])
        self.answered(self.before(), bill(1, 11, 20000), [0, 0])

    def test_again_it_is_the_difference(self):
        self.all_answered(list(zip(self.before(), [[0], [0, 1], [0, 2], [0, 0], [0], [0], [0], [0]])) + [
            (bill(1, 0, 10), [0, 1111]),
            (bill(1, 0, 10), [0, 0]),
            (volume(1, 5, 7), [0]),
            (bill(1, 0, 10), [0, 7]),
            (bill(1, 0, 10), [0, 0]),
            (volume(1, 5, 0), [0]),
            (bill(1, 0, 10), [0, -7]),
            (bill(1, 0, 10), [0, 0]),
        ])

    def test_each_supplier_first_and_last_has_a_bill_of_its_own(self):
        before = self.before() + [bill(1, 0, 10)]
        self.answered(before, bill(1, 0, 11), [0, 1111])
        self.answered(before, bill(1, 1, 10), [0, 1110])
        self.answered(before + [correct(2, 0, 10, 2)], bill(2, 0, 10), [0, 1000])

    def test_a_correction_of_the_past(self):
        before = self.before() + [bill(1, 0, 10), bill(2, 0, 10), correct(1, 4, 9, 2)]
        self.answered(before, bill(1, 0, 10), [0, -10])
        self.answered(before, bill(2, 0, 10), [0, 10])
        before += [bill(1, 0, 10), bill(2, 0, 10), day(20), volume(1, 4, 500)]
        self.answered(before, bill(1, 0, 10), [0, 0])
        self.answered(before, bill(2, 0, 10), [0, 490])
        before += [bill(2, 0, 10), correct(1, 0, 20, 1)]
        self.answered(before, bill(1, 0, 10), [0, 500])
        self.answered(before, bill(2, 0, 10), [0, -500])

    def test_below_what_was_billed_last(self):
        before = self.before() + [bill(1, 0, 10), correct(1, 0, 10, 2), correct(2, 0, 10, 3)]
        self.answered(before, bill(1, 0, 10), [0, -1111])
        self.answered(before + [bill(1, 0, 10)], bill(1, 0, 10), [0, 0])

    def test_billed_by_who_supplies_day_by_day(self):
        before = open_with(1) + [request(1, 2, 8), day(3), vacate(1, 11), day(30)]
        before += [volume(1, on, 10 ** place) for place, on in enumerate((7, 8, 10, 11, 30))]
        self.answered(before, bill(1, 0, 30), [0, 11001])
        self.answered(before, bill(2, 0, 30), [0, 110])

    def test_a_failed_supplier_may_be_billed(self):
        before = open_with(1) + [correct(1, 0, 10, 2), volume(1, 0, 9), fail(2), day(5), volume(1, 1, 80)]
        self.answered(before, bill(2, 0, 10), [0, 9])
        self.answered(before, bill(1, 0, 10), [0, 80])

    def test_ranges(self):
        self.ranges(self.before(), bill(1, 5, 5), (SUPPLIER, DAY, DAY))
        self.answered(open_with(1, suppliers=8), bill(8, 0, 20000), [0, 0])
        self.answered(open_with(1), bill(1, 20000, 20000), [0, 0])

    def test_no_such_supplier(self):
        self.refused(self.before(), bill(5, 0, 10), -6, 10)
        self.refused(self.before(), bill(8, 0, 10), -6, 10)
        self.answered(self.before(), bill(4, 0, 10), [0, 0])

    def test_last_before_first(self):
        self.refused(self.before(), bill(1, 5, 4), -8, 10)
        self.refused(self.before(), bill(1, 20000, 0), -8, 10)
        self.answered(self.before(), bill(1, 4, 4), [0, 1010])

    def test_greatest_number(self):
        billed = [bill(1, 0, last) for last in range(64)]
        got = run(self.before() + billed)
        self.assertEqual([answer[0] for answer in got], [0] * len(got))
        tail = billed + [bill(1, 0, 64), bill(2, 0, 63), volume(1, 0, 5)] + billed
        self.refused(self.before() + billed, bill(1, 0, 64), -4, 10, tail)
        self.refused(self.before() + billed, bill(2, 0, 63), -4, 10, tail)
        self.refused(self.before() + billed, bill(1, 1, 63), -4, 10, tail)
        self.answered(self.before() + billed[1:], bill(1, 0, 64), [0, 1111])
        self.answered(self.before() + billed + [volume(1, 0, 3)], bill(1, 0, 63), [0, 2])
        self.answered(self.before() + billed + [volume(1, 0, 3)], bill(1, 0, 0), [0, 2])

    def test_the_same_bill_again_is_not_another_one(self):
        billed = [bill(1, 0, 0)] * 5 + [bill(1, 0, last) for last in range(1, 64)]
        self.answered(self.before() + billed[:-1], billed[-1], [0, 1111])
        self.answered(self.before() + billed, bill(1, 0, 64), [-4])

    def test_supplier_comes_before_days(self):
        self.refused(self.before(), bill(5, 5, 4), -6, 10)

    def test_days_come_before_too_many(self):
        billed = [bill(1, 0, last) for last in range(64)]
        self.refused(self.before() + billed, bill(1, 5, 4), -8, 10)
        self.refused(self.before() + billed, bill(5, 5, 4), -6, 10)

    def test_minus_1_comes_first(self):
        self.refused(self.before(), bill(9, 5, 4), -1, 10)
        self.refused(self.before(), bill(5, 5, -1), -1, 10)


if __name__ == "__main__":
    unittest.main()
