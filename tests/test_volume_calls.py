"""The calls volume, bill, volumeOf and volumes."""

import unittest

from tests.helper import DAY, POINT, SUPPLIER, Case
from tests.helper import bill, correct, day, fail, open_with, request, run, vacate, volume, volume_of, volumes

AMOUNT = (0, 10 ** 9)


class VolumeTest(Case):
    def test_ordinary(self):
        self.answered(open_with(1), volume(1, 0, 5), [0])

    def test_it_is_what_is_billed(self):
        before = open_with(2) + [day(9), volume(1, 3, 5), volume(2, 3, 70), volume(1, 9, 600)]
        self.answered(before, bill(1, 0, 9), [0, 675])

    def test_the_one_told_last_holds(self):
        before = open_with(1) + [volume(1, 0, 5), volume(1, 0, 7)]
        self.answered(before, bill(1, 0, 0), [0, 7])
        self.answered(before + [day(4), volume(1, 0, 3)], bill(1, 0, 0), [0, 3])
        self.answered(before + [volume(1, 0, 0)], bill(1, 0, 0), [0, 0])

    def test_ranges(self):
        self.ranges(open_with(2), volume(1, 0, 5), (POINT, DAY, AMOUNT))
        self.answered(open_with(1), volume(1, 0, 0), [0])
        self.answered(open_with(1), volume(1, 0, 10 ** 9), [0])
        self.answered(open_with(16) + [day(20000)], volume(16, 20000, 1), [0])

    def test_no_such_point(self):
        self.refused(open_with(2), volume(3, 0, 5), -5)
        self.refused(open_with(2), volume(16, 0, 5), -5)

    def test_day_after_today(self):
        self.refused(open_with(2), volume(1, 1, 5), -8)
        self.refused(open_with(2) + [day(10)], volume(1, 11, 5), -8, 10)
        self.refused(open_with(2) + [day(10)], volume(1, 20000, 5), -8, 10)
        self.answered(open_with(2) + [day(10)], volume(1, 10, 5), [0])
        self.answered(open_with(2) + [day(10)], volume(1, 0, 5), [0])

    def test_greatest_number(self):
        told = [volume(1, on, 10 ** 9) for on in range(256)]
        before = open_with(1) + [day(300)]
        self.assertEqual(run(before + told)[3:], [[0]] * 256)
        tail = [bill(1, 0, 400), volume(1, 0, 1), bill(1, 0, 400)]
        self.refused(before + told, volume(1, 256, 5), -4, 300, tail)
        self.refused(before + told, volume(1, 0, 5), -4, 300, tail)
        self.answered(before + told, bill(1, 0, 400), [0, 256 * 10 ** 9])

    def test_those_for_one_day_count_each(self):
        told = [volume(1, 0, amount) for amount in range(256)]
        self.refused(open_with(1) + told, volume(1, 0, 999), -4, 0, [bill(1, 0, 0)])
        self.answered(open_with(1) + told, bill(1, 0, 0), [0, 255])
        self.answered(open_with(1) + told[1:], volume(1, 0, 999), [0])

    def test_point_comes_before_day(self):
        self.refused(open_with(2), volume(3, 1, 5), -5)

    def test_day_comes_before_too_many(self):
        filled = open_with(2) + [volume(1, 0, 1)] * 256
        self.refused(filled, volume(1, 1, 5), -8, 0, [bill(1, 0, 400)])
        self.refused(filled, volume(3, 1, 5), -5, 0, [bill(1, 0, 400)])

    def test_minus_1_comes_first(self):
        self.refused(open_with(2), volume(3, 1, -1), -1)
        self.refused(open_with(2), volume(17, 1, 5), -1)


class BillTest(Case):
    def before(self):
        return open_with(2) + [day(10), volume(1, 0, 1), volume(1, 4, 10), volume(1, 10, 100), volume(2, 4, 1000)]

    def test_ordinary(self):
        self.answered(self.before(), bill(1, 0, 10), [0, 1111])
        self.answered(self.before(), bill(2, 0, 10), [0, 0])

    def test_from_first_to_last(self):
        for first, last, expected in ((0, 9, 1011), (1, 10, 1110), (4, 4, 1010), (5, 9, 0), (10, 10, 100), (0, 0, 1)):
            self.answered(self.before(), bill(1, first, last), [0, expected])
        self.answered(self.before(), bill(1, 0, 20000), [0, 1111])
        self.answered(self.before(), bill(1, 11, 20000), [0, 0])

    def test_again_it_is_the_difference(self):
        self.all_answered(list(zip(self.before(), [[0], [0, 1], [0, 2], [0, 0], [0], [0], [0], [0]])) + [
            (bill(1, 0, 10), [0, 1111]),
            (bill(1, 0, 10), [0, 0]),
            (volume(1, 5, 7), [0]),
            (bill(1, 0, 10), [0, 7]),
            (bill(1, 0, 10), [0, 0]),
            (volume(1, 5, 0), [0]),
            (bill(1, 0, 10), [0, -7]),
            (bill(1, 0, 10), [0, 0]),
        ])

    def test_each_supplier_first_and_last_has_a_bill_of_its_own(self):
        before = self.before() + [bill(1, 0, 10)]
        self.answered(before, bill(1, 0, 11), [0, 1111])
        self.answered(before, bill(1, 1, 10), [0, 1110])
        self.answered(before + [correct(2, 0, 10, 2)], bill(2, 0, 10), [0, 1000])

    def test_a_correction_of_the_past(self):
        before = self.before() + [bill(1, 0, 10), bill(2, 0, 10), correct(1, 4, 9, 2)]
        self.answered(before, bill(1, 0, 10), [0, -10])
        self.answered(before, bill(2, 0, 10), [0, 10])
        before += [bill(1, 0, 10), bill(2, 0, 10), day(20), volume(1, 4, 500)]
        self.answered(before, bill(1, 0, 10), [0, 0])
        self.answered(before, bill(2, 0, 10), [0, 490])
        before += [bill(2, 0, 10), correct(1, 0, 20, 1)]
        self.answered(before, bill(1, 0, 10), [0, 500])
        self.answered(before, bill(2, 0, 10), [0, -500])

    def test_below_what_was_billed_last(self):
        before = self.before() + [bill(1, 0, 10), correct(1, 0, 10, 2), correct(2, 0, 10, 3)]
        self.answered(before, bill(1, 0, 10), [0, -1111])
        self.answered(before + [bill(1, 0, 10)], bill(1, 0, 10), [0, 0])

    def test_billed_by_who_supplies_day_by_day(self):
        before = open_with(1) + [request(1, 2, 8), day(3), vacate(1, 11), day(30)]
        before += [volume(1, on, 10 ** place) for place, on in enumerate((7, 8, 10, 11, 30))]
        self.answered(before, bill(1, 0, 30), [0, 11001])
        self.answered(before, bill(2, 0, 30), [0, 110])

    def test_a_failed_supplier_may_be_billed(self):
        before = open_with(1) + [correct(1, 0, 10, 2), volume(1, 0, 9), fail(2), day(5), volume(1, 1, 80)]
        self.answered(before, bill(2, 0, 10), [0, 9])
        self.answered(before, bill(1, 0, 10), [0, 80])

    def test_ranges(self):
        self.ranges(self.before(), bill(1, 5, 5), (SUPPLIER, DAY, DAY))
        self.answered(open_with(1, suppliers=8), bill(8, 0, 20000), [0, 0])
        self.answered(open_with(1), bill(1, 20000, 20000), [0, 0])

    def test_no_such_supplier(self):
        self.refused(self.before(), bill(5, 0, 10), -6, 10)
        self.refused(self.before(), bill(8, 0, 10), -6, 10)
        self.answered(self.before(), bill(4, 0, 10), [0, 0])

    def test_last_before_first(self):
        self.refused(self.before(), bill(1, 5, 4), -8, 10)
        self.refused(self.before(), bill(1, 20000, 0), -8, 10)
        self.answered(self.before(), bill(1, 4, 4), [0, 1010])

    def test_greatest_number(self):
        billed = [bill(1, 0, last) for last in range(64)]
        got = run(self.before() + billed)
        self.assertEqual([answer[0] for answer in got], [0] * len(got))
        tail = billed + [bill(1, 0, 64), bill(2, 0, 63), volume(1, 0, 5)] + billed
        self.refused(self.before() + billed, bill(1, 0, 64), -4, 10, tail)
        self.refused(self.before() + billed, bill(2, 0, 63), -4, 10, tail)
        self.refused(self.before() + billed, bill(1, 1, 63), -4, 10, tail)
        self.answered(self.before() + billed[1:], bill(1, 0, 64), [0, 1111])
        self.answered(self.before() + billed + [volume(1, 0, 3)], bill(1, 0, 63), [0, 2])
        self.answered(self.before() + billed + [volume(1, 0, 3)], bill(1, 0, 0), [0, 2])

    def test_the_same_bill_again_is_not_another_one(self):
        billed = [bill(1, 0, 0)] * 5 + [bill(1, 0, last) for last in range(1, 64)]
        self.answered(self.before() + billed[:-1], billed[-1], [0, 1111])
        self.answered(self.before() + billed, bill(1, 0, 64), [-4])

    def test_supplier_comes_before_days(self):
        self.refused(self.before(), bill(5, 5, 4), -6, 10)

    def test_days_come_before_too_many(self):
        billed = [bill(1, 0, last) for last in range(64)]
        self.refused(self.before() + billed, bill(1, 5, 4), -8, 10)
        self.refused(self.before() + billed, bill(5, 5, 4), -6, 10)

    def test_minus_1_comes_first(self):
        self.refused(self.before(), bill(9, 5, 4), -1, 10)
        self.refused(self.before(), bill(5, 5, -1), -1, 10)


# For point 1 and day 4 three volumes are told, on days 10, 20 and 30. Point 2 has one volume, told on day 10; point 3
# one for day 0 and one for day 25, told on day 25. On day 15 supplier 3 is found to have supplied point 1 on days 2 to
# 6; on day 35 supplier 2, which supplies point 2 from day 0 on, fails.
TODAY = 40
STORY = open_with(3) + [
    correct(2, 0, 100, 2), day(10), volume(1, 4, 1), volume(2, 4, 1000), day(15), correct(1, 2, 6, 3), day(20),
    volume(1, 4, 20), day(25), volume(3, 0, 40000), volume(3, 25, 500000), day(30), volume(1, 4, 300), day(35),
    fail(2), day(TODAY),
]

# From which day of knowledge on: the volumes of suppliers 1 to 4 over all days.
KNOWN = {
    0: [0, 0, 0, 0],
    10: [1, 1000, 0, 0],
    15: [0, 1000, 1, 0],
    20: [0, 1000, 20, 0],
    25: [540000, 1000, 20, 0],
    30: [540000, 1000, 300, 0],
}


def known_volumes(k):
    return KNOWN[max(known_from for known_from in KNOWN if known_from <= k)]


class VolumeOfTest(Case):
    def test_every_call_of_the_story_is_accepted(self):
        self.assertEqual([answer[0] for answer in run(STORY)], [0] * len(STORY))

    def test_ordinary(self):
        self.asked(STORY, volume_of(3, 0, 10, 20), [0, 20], TODAY)
        self.asked(STORY, volume_of(1, 0, 100, 40), [0, 540000], TODAY)
        self.asked(STORY, volume_of(4, 0, 20000, 40), [0, 0], TODAY)

    def test_as_known_at_every_day(self):
        for supplier in range(1, 5):
            got = run(STORY + [volume_of(supplier, 0, 20000, k) for k in range(TODAY + 1)])[len(STORY):]
            for k in range(TODAY + 1):
                self.assertEqual(got[k], [0, known_volumes(k)[supplier - 1]], (supplier, k))

    def test_told_twice_on_one_day(self):
        before = open_with(1) + [volume(1, 0, 5), volume(1, 0, 7), day(3), volume(1, 0, 9), volume(1, 0, 2), day(4)]
        for k, amount in ((0, 7), (2, 7), (3, 2), (4, 2)):
            self.answered(before, volume_of(1, 0, 0, k), [0, amount])

    def test_told_anew_as_0(self):
        before = open_with(1) + [volume(1, 0, 5), day(3), volume(1, 0, 0)]
        for k, amount in ((0, 5), (2, 5), (3, 0)):
            self.answered(before, volume_of(1, 0, 20000, k), [0, amount])

    def test_from_first_to_last(self):
        for first, last, expected in ((0, 0, 40000), (0, 24, 40000), (0, 25, 540000), (1, 25, 500000), (1, 24, 0),
                                      (25, 25, 500000), (26, 20000, 0)):
            self.answered(STORY, volume_of(1, first, last, TODAY), [0, expected])
        for first, last, expected in ((0, 3, 0), (0, 4, 300), (4, 4, 300), (5, 20000, 0)):
            self.answered(STORY, volume_of(3, first, last, TODAY), [0, expected])

    def test_over_several_points(self):
        before = open_with(16) + [day(5)] + [volume(at, 3, 1) for at in range(1, 17)]
        self.answered(before, volume_of(1, 0, 5, 5), [0, 16])
        self.answered(before + [correct(16, 3, 3, 2), correct(1, 3, 3, 2)], volume_of(1, 0, 5, 5), [0, 14])
        self.answered(before + [correct(16, 3, 3, 2), correct(1, 3, 3, 2)], volume_of(2, 0, 5, 5), [0, 2])

    def test_the_supplier_and_the_volume_are_both_as_known_at_k(self):
        before = open_with(1) + [day(5), volume(1, 3, 70), day(6), correct(1, 3, 3, 2), day(7), volume(1, 3, 8), day(8)]
        for k, first, second in ((4, 0, 0), (5, 70, 0), (6, 0, 70), (7, 0, 8), (8, 0, 8)):
            self.answered(before, volume_of(1, 0, 8, k), [0, first])
            self.answered(before, volume_of(2, 0, 8, k), [0, second])

    def test_a_supplier_that_has_failed(self):
        for k in (10, 34, 35, TODAY):
            self.answered(STORY, volume_of(2, 0, 20000, k), [0, 1000])
        before = STORY + [volume(2, 35, 7), volume(2, 36, 9)]
        self.answered(before, volume_of(2, 0, 20000, TODAY), [0, 1007])
        self.answered(before, volume_of(1, 36, 20000, TODAY), [0, 9])

    def test_bills_do_not_count(self):
        self.answered(STORY + [bill(3, 0, 10), bill(3, 0, 20000)], volume_of(3, 0, 10, TODAY), [0, 300])

    def test_great_amounts(self):
        before = open_with(1) + [day(300)] + [volume(1, on, 10 ** 9) for on in range(256)]
        self.answered(before, volume_of(1, 0, 20000, 300), [0, 256 * 10 ** 9])
        self.answered(before, volumes(0, 254, 300), [0, 255 * 10 ** 9, 0, 0, 0, 255 * 10 ** 9])

    def test_ranges(self):
        self.ranges(STORY, volume_of(3, 4, 4, 4), (SUPPLIER, DAY, DAY, DAY))
        self.answered(open_with(1, suppliers=8) + [day(20000)], volume_of(8, 20000, 20000, 20000), [0, 0])

    def test_no_such_supplier(self):
        self.refused(STORY, volume_of(5, 0, 10, 10), -6, TODAY)
        self.refused(STORY, volume_of(8, 0, 10, 10), -6, TODAY)

    def test_last_before_first(self):
        self.refused(STORY, volume_of(3, 5, 4, 10), -8, TODAY)
        self.refused(STORY, volume_of(3, 20000, 0, 10), -8, TODAY)

    def test_known_after_today(self):
        self.refused(STORY, volume_of(3, 4, 4, TODAY + 1), -8, TODAY)
        self.refused(STORY, volume_of(3, 4, 4, 20000), -8, TODAY)
        self.refused(STORY, volume_of(3, 5, 4, TODAY + 1), -8, TODAY)
        self.answered(STORY, volume_of(3, 4, 4, TODAY), [0, 300])
        self.refused(open_with(1), volume_of(1, 0, 0, 1), -8)

    def test_supplier_comes_before_days(self):
        self.refused(STORY, volume_of(5, 5, 4, 10), -6, TODAY)
        self.refused(STORY, volume_of(5, 4, 4, TODAY + 1), -6, TODAY)

    def test_minus_1_comes_first(self):
        self.refused(STORY, volume_of(9, 5, 4, 10), -1, TODAY)
        self.refused(STORY, volume_of(5, 5, 4, -1), -1, TODAY)


class VolumesTest(Case):
    def test_ordinary(self):
        self.asked(STORY, volumes(0, 20000, TODAY), [0, 540000, 1000, 300, 0, 541300], TODAY)
        self.asked(STORY, volumes(0, 10, 15), [0, 0, 1000, 1, 0, 1001], TODAY)

    def test_as_known_at_every_day(self):
        got = run(STORY + [volumes(0, 20000, k) for k in range(TODAY + 1)])[len(STORY):]
        for k in range(TODAY + 1):
            self.assertEqual(got[k], [0] + known_volumes(k) + [sum(known_volumes(k))], k)

    def test_from_first_to_last(self):
        for first, last, expected in ((0, 3, [40000, 0, 0, 0, 40000]), (4, 4, [0, 1000, 300, 0, 1300]),
                                      (5, 24, [0, 0, 0, 0, 0]), (4, 25, [500000, 1000, 300, 0, 501300]),
                                      (0, 4, [40000, 1000, 300, 0, 41300])):
            self.answered(STORY, volumes(first, last, TODAY), [0] + expected)

    def test_one_number_for_each_supplier_there_is(self):
        for suppliers in range(1, 9):
            before = open_with(1, basic=suppliers, suppliers=suppliers) + [volume(1, 0, 5)]
            self.answered(before, volumes(0, 0, 0), [0] + [0] * (suppliers - 1) + [5, 5])
        self.answered(open_with(0), volumes(0, 20000, 0), [0, 0, 0, 0, 0, 0])

    def test_the_last_number_is_the_sum_over_all_points_and_days(self):
        told = [(at, on, at * 100 + on) for at in range(1, 17) for on in (0, 3, 4, 9)]
        before = open_with(16, suppliers=8) + [day(10)] + [volume(*row) for row in told]
        before += [correct(at, 3, 8, at % 8 + 1) for at in range(1, 17)]
        got = run(before + [volumes(1, 8, 10)])[-1]
        total = sum(amount for at, on, amount in told if 1 <= on <= 8)
        by_supplier = [sum(amount for at, on, amount in told if 1 <= on <= 8 and at % 8 + 1 == supplier)
                       for supplier in range(1, 9)]
        self.assertEqual(got, [0] + by_supplier + [total])

    def test_each_is_what_is_told_of_the_supplier_alone(self):
        for k in (0, 10, 24, TODAY):
            got = run(STORY + [volumes(3, 30, k)] + [volume_of(supplier, 3, 30, k) for supplier in range(1, 5)])
            self.assertEqual(got[len(STORY)][1:5], [answer[1] for answer in got[len(STORY) + 1:]])

    def test_with_a_supplier_that_has_failed(self):
        self.answered(STORY + [volume(2, 36, 9)], volumes(4, 36, TODAY), [0, 500009, 1000, 300, 0, 501309])

    def test_ranges(self):
        self.ranges(STORY, volumes(4, 4, 4), (DAY, DAY, DAY))
        self.answered(open_with(1) + [day(20000), volume(1, 20000, 3)], volumes(20000, 20000, 20000), [0, 3, 0, 0, 0, 3])

    def test_last_before_first(self):
        self.refused(STORY, volumes(5, 4, 10), -8, TODAY)
        self.refused(STORY, volumes(20000, 0, 10), -8, TODAY)
        self.answered(STORY, volumes(4, 4, 10), [0, 1, 1000, 0, 0, 1001])

    def test_known_after_today(self):
        self.refused(STORY, volumes(4, 4, TODAY + 1), -8, TODAY)
        self.refused(STORY, volumes(4, 4, 20000), -8, TODAY)
        self.refused(STORY, volumes(5, 4, TODAY + 1), -8, TODAY)
        self.answered(STORY, volumes(4, 4, TODAY), [0, 0, 1000, 300, 0, 1300])

    def test_minus_1_comes_first(self):
        self.refused(STORY, volumes(5, 4, -1), -1, TODAY)
        self.refused(STORY, volumes(20001, 4, TODAY + 1), -1, TODAY)


if __name__ == "__main__":
    unittest.main()
