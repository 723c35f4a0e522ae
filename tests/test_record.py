"""Business days, and the record as known at a day: what calls do not show is looked at in the house itself."""

import unittest

from supplierdays.days import business_after, business_between, is_free
from supplierdays.house import Fact, House, Volume
from supplierdays.record import span_starts, stretch_end, stretches_of_difference, supplier_on, supplier_volume


class DaysTest(unittest.TestCase):
    def test_free_days(self):
        self.assertEqual([day for day in range(15) if is_free({3: True, 6: True}, day)], [3, 5, 6, 12, 13])
        self.assertEqual([day for day in range(19995, 20001) if is_free({}, day)], [19997, 19998])

    def test_the_day_itself_for_0(self):
        for day in (0, 4, 5, 6, 20000):
            self.assertEqual(business_after({}, day, 0), day)
        self.assertEqual(business_after({3: True}, 3, 0), 3)

    def test_business_days_after_it(self):
        self.assertEqual([business_after({}, 0, n) for n in range(8)], [0, 1, 2, 3, 4, 7, 8, 9])
        self.assertEqual([business_after({}, 5, n) for n in range(4)], [5, 7, 8, 9])
        self.assertEqual([business_after({1: True, 4: True, 7: True}, 0, n) for n in range(5)], [0, 2, 3, 8, 9])

    def test_beyond_the_last_day(self):
        self.assertEqual([business_after({}, 20000, n) for n in range(6)], [20000, 20001, 20002, 20003, 20006, 20007])

    def test_business_days_between(self):
        holidays = {1: True, 4: True, 6: True, 7: True, 20000: True}
        for a, b in ((0, 0), (0, 4), (4, 7), (5, 8), (0, 400), (19000, 20000), (0, 20000)):
            expected = len([day for day in range(a + 1, b + 1) if not is_free(holidays, day)])
            self.assertEqual(business_between(holidays, a, b), expected, (a, b))


class RecordTest(unittest.TestCase):
    def house(self):
        house = House()
        house.opened = True
        house.basic = 1
        house.suppliers = 4
        house.points = 2
        house.today = 30
        house.facts.append(Fact(1, 10, 20, 2, 5))
        house.facts.append(Fact(2, 0, 20000, 4, 5))
        house.facts.append(Fact(1, 15, 25, 3, 6))
        house.facts.append(Fact(1, 18, 20000, 1, 6))
        house.facts.append(Fact(1, 0, 12, 2, 9))
        return house

    def test_supplier_as_known_at_a_day(self):
        house = self.house()
        for known_at, expected in ((4, [1, 1, 1, 1, 1, 1]), (5, [1, 2, 2, 2, 1, 1]), (6, [1, 2, 3, 1, 1, 1]),
                                   (8, [1, 2, 3, 1, 1, 1]), (9, [2, 2, 3, 1, 1, 1])):
            days = (9, 10, 17, 18, 25, 20000)
            self.assertEqual([supplier_on(house, 1, day, known_at) for day in days], expected, known_at)
        self.assertEqual([supplier_on(house, 2, day, 5) for day in (0, 20000)], [4, 4])
        self.assertEqual([supplier_on(house, 2, day, 4) for day in (0, 20000)], [1, 1])

    def test_spans_as_known_at_a_day(self):
        house = self.house()
        for known_at, expected in ((4, [(0, 1)]), (5, [(0, 1), (10, 2), (21, 1)]),
                                   (6, [(0, 1), (10, 2), (15, 3), (18, 1)]), (9, [(0, 2), (15, 3), (18, 1)])):
            self.assertEqual(span_starts(house, 1, known_at), expected, known_at)
        self.assertEqual(span_starts(house, 2, 5), [(0, 4)])

    def test_end_of_a_stretch_as_known_at_a_day(self):
        house = self.house()
        for known_at, expected in ((4, [20000] * 5), (5, [9, 20, 20, 20, 20000]), (6, [9, 14, 14, 17, 20000]),
                                   (9, [14, 14, 14, 17, 20000])):
            days = (0, 10, 14, 15, 21)
            self.assertEqual([stretch_end(house, 1, day, known_at) for day in days], expected, known_at)

    def test_stretches_of_difference(self):
        house = self.house()
        for known_at, other, expected in ((4, 5, [(10, 20)]), (5, 6, [(15, 20)]), (6, 9, [(0, 9)]), (4, 4, []),
                                          (5, 9, [(0, 9), (15, 20)]), (4, 9, [(0, 17)])):
            self.assertEqual(stretches_of_difference(house, 1, known_at, other), expected, (known_at, other))
            self.assertEqual(stretches_of_difference(house, 1, other, known_at), expected, (known_at, other))
        self.assertEqual(stretches_of_difference(house, 2, 4, 5), [(0, 20000)])

    def test_volume_as_known_at_a_day(self):
        house = self.house()
        house.volumes.append(Volume(1, 3, 100, 5))
        house.volumes.append(Volume(2, 3, 7, 5))
        house.volumes.append(Volume(1, 3, 50, 10))
        for known_at, expected in ((4, [0, 0, 0, 0]), (5, [100, 0, 0, 7]), (9, [0, 100, 0, 7]), (10, [0, 50, 0, 7])):
            got = [supplier_volume(house, supplier, 0, 20000, known_at) for supplier in range(1, 5)]
            self.assertEqual(got, expected, known_at)


if __name__ == "__main__":
    unittest.main()
