"""The calls who, history, differs, supplied and facts: who supplies whom, as known at a day, and what says so."""

import unittest

from tests.helper import DAY, POINT, SUPPLIER, Case
from tests.helper import correct, day, differs, facts, fail, history, object_to, open_with, point, request, run
from tests.helper import state, supplied, vacate, who, withdraw

TODAY = 60

# At point 1 a request is confirmed (known from day 3 on), then come a correction of the past (day 10), a vacated point
# (day 20) and a failed supplier (day 24). Point 2 is left alone; point 3 is supplier 2's from the first day on.
STORY = open_with(3) + [
    correct(3, 0, 100, 2), request(1, 2, 7), day(3), day(10), correct(1, 3, 12, 3), day(20), vacate(1, 30),
    day(24), fail(2), day(TODAY),
]

# What is known of point 1, by the day from which on it is known: the spans' first days and suppliers.
KNOWN = {
    0: [(0, 1)],
    3: [(0, 1), (7, 2)],
    10: [(0, 1), (3, 3), (13, 2)],
    20: [(0, 1), (3, 3), (13, 2), (30, 1)],
    24: [(0, 1), (3, 3), (13, 2), (25, 1)],
}


def flat(rows):
    return [number for row in rows for number in row]


def spans(*rows):
    return [0, len(rows)] + flat(rows)


def stretches(*rows):
    return [0, len(rows)] + flat(rows)


def known_of_point_1(k):
    return KNOWN[max(known_from for known_from in KNOWN if known_from <= k)]


class StoryTest(unittest.TestCase):
    def test_every_call_of_the_story_is_accepted(self):
        self.assertEqual([answer[0] for answer in run(STORY)], [0] * len(STORY))


class WhoTest(Case):
    def test_ordinary(self):
        self.asked(STORY, who(1, 8, 10), [0, 3], TODAY)
        self.asked(open_with(1, basic=3), who(1, 0, 0), [0, 3])

    def test_a_day_that_is_over_as_known_at_several_days(self):
        expected = {
            2: {0: 1, 2: 1, 3: 1, 9: 1, 10: 1, 24: 1, 60: 1},
            3: {0: 1, 2: 1, 3: 1, 9: 1, 10: 3, 24: 3, 60: 3},
            6: {2: 1, 3: 1, 9: 1, 10: 3, 60: 3},
            7: {0: 1, 2: 1, 3: 2, 9: 2, 10: 3, 60: 3},
            12: {2: 1, 3: 2, 9: 2, 10: 3, 60: 3},
            13: {2: 1, 3: 2, 9: 2, 10: 2, 20: 2, 24: 2, 60: 2},
            24: {2: 1, 3: 2, 10: 2, 23: 2, 24: 2, 60: 2},
            25: {2: 1, 3: 2, 10: 2, 20: 2, 23: 2, 24: 1, 60: 1},
            29: {2: 1, 3: 2, 19: 2, 20: 2, 23: 2, 24: 1, 60: 1},
            30: {2: 1, 3: 2, 19: 2, 20: 1, 23: 1, 24: 1, 60: 1},
            20000: {0: 1, 2: 1, 3: 2, 19: 2, 20: 1, 60: 1},
        }
        for on, by_k in expected.items():
            for k, supplier in by_k.items():
                self.answered(STORY, who(1, on, k), [0, supplier])

    def test_each_point_has_facts_of_its_own(self):
        for at, on, supplier in ((2, 8, 1), (2, 0, 1), (3, 8, 2), (3, 0, 2), (3, 24, 2), (3, 25, 1), (3, 101, 1)):
            self.answered(STORY, who(at, on, TODAY), [0, supplier])
        self.answered(STORY, who(3, 25, 23), [0, 2])

    def test_known_from_the_day_after_the_deadline_however_late_it_is_put_on_record(self):
        before = open_with(1) + [request(1, 2, 7), day(50)]
        for k, supplier in ((0, 1), (2, 1), (3, 2), (50, 2)):
            self.answered(before, who(1, 7, k), [0, supplier])

    def test_a_request_that_is_not_confirmed_says_nothing(self):
        for ended in (object_to(1, 1), withdraw(1), fail(2)):
            self.answered(open_with(1) + [request(1, 2, 7), ended, day(50)], who(1, 7, 50), [0, 1])
        self.answered(open_with(1) + [request(1, 2, 7), day(2)], who(1, 7, 2), [0, 1])

    def test_of_one_day_the_fact_put_on_record_last(self):
        before = open_with(1) + [correct(1, 0, 10, 2), correct(1, 5, 20, 3), correct(1, 7, 7, 4)]
        for on, supplier in ((0, 2), (4, 2), (5, 3), (7, 4), (8, 3), (10, 3), (20, 3), (21, 1)):
            self.answered(before, who(1, on, 0), [0, supplier])

    def test_a_fact_that_is_day_0_alone_and_one_to_the_last_day(self):
        before = open_with(1) + [correct(1, 0, 0, 2)]
        self.answered(before, who(1, 0, 0), [0, 2])
        self.answered(before, who(1, 1, 0), [0, 1])
        before = open_with(1) + [request(1, 2, 7), day(3)]
        self.answered(before, who(1, 20000, 3), [0, 2])
        self.answered(before, who(1, 6, 3), [0, 1])

    def test_a_point_that_came_late(self):
        before = open_with(1) + [day(50), point()]
        self.answered(before, who(2, 0, 0), [0, 1])
        self.answered(before, who(2, 20000, 50), [0, 1])

    def test_a_day_to_come(self):
        self.answered(open_with(1) + [correct(1, 30, 40, 2)], who(1, 35, 0), [0, 2])

    def test_ranges(self):
        self.ranges(STORY, who(1, 8, 0), (POINT, DAY, DAY))
        self.answered(open_with(16) + [day(20000)], who(16, 20000, 20000), [0, 1])
        self.answered(open_with(1), who(1, 20000, 0), [0, 1])

    def test_no_such_point(self):
        self.refused(STORY, who(4, 8, 0), -5, TODAY)
        self.refused(STORY, who(16, 8, 0), -5, TODAY)
        self.refused(open_with(0), who(1, 0, 0), -5)

    def test_known_after_today(self):
        self.refused(STORY, who(1, 8, TODAY + 1), -8, TODAY)
        self.refused(STORY, who(1, 8, 20000), -8, TODAY)
        self.answered(STORY, who(1, 8, TODAY), [0, 3])
        self.refused(open_with(1), who(1, 0, 1), -8)
        self.answered(open_with(1), who(1, 0, 0), [0, 1])

    def test_point_comes_before_knowledge(self):
        self.refused(STORY, who(4, 8, TODAY + 1), -5, TODAY)

    def test_minus_1_comes_first(self):
        self.refused(STORY, who(4, 20001, TODAY + 1), -1, TODAY)
        self.refused(STORY, who(17, 8, TODAY + 1), -1, TODAY)


class HistoryTest(Case):
    def test_ordinary(self):
        self.asked(STORY, history(1, 24), [0, 4, 0, 1, 3, 3, 13, 2, 25, 1], TODAY)
        self.asked(STORY, history(2, 24), [0, 1, 0, 1], TODAY)
        self.asked(STORY, history(3, 24), [0, 2, 0, 2, 25, 1], TODAY)

    def test_as_known_at_every_day(self):
        got = run(STORY + [history(1, k) for k in range(TODAY + 1)])[len(STORY):]
        for k in range(TODAY + 1):
            self.assertEqual(got[k], spans(*known_of_point_1(k)), k)

    def test_known_on_the_day_itself_as_known_later(self):
        for count in range(4, len(STORY)):
            today = run(STORY[:count] + [state()])[-1][1]
            if STORY[count][0] == 3:
                self.answered(STORY[:count], history(1, today), spans(*known_of_point_1(today)))

    def test_neighbouring_facts_that_name_one_supplier_make_one_span(self):
        before = open_with(1) + [correct(1, 5, 10, 2), correct(1, 11, 15, 2)]
        self.answered(before, history(1, 0), spans((0, 1), (5, 2), (16, 1)))
        before = open_with(1) + [correct(1, 11, 15, 2), correct(1, 5, 10, 2)]
        self.answered(before, history(1, 0), spans((0, 1), (5, 2), (16, 1)))
        self.answered(before + [correct(1, 16, 20, 3)], history(1, 0), spans((0, 1), (5, 2), (16, 3), (21, 1)))

    def test_facts_of_one_supplier_over_one_another_make_one_span(self):
        before = open_with(1) + [correct(1, 5, 15, 2), correct(1, 8, 9, 2), correct(1, 12, 20, 2)]
        self.answered(before, history(1, 0), spans((0, 1), (5, 2), (21, 1)))

    def test_facts_of_the_basic_supplier_part_nothing(self):
        before = open_with(1) + [correct(1, 0, 10, 1), correct(1, 20, 30, 1)]
        self.answered(before, history(1, 0), spans((0, 1)))
        before += [correct(1, 5, 6, 2), correct(1, 5, 6, 1)]
        self.answered(before, history(1, 0), spans((0, 1)))

    def test_a_fact_that_others_cover_whole(self):
        before = open_with(1) + [correct(1, 5, 10, 2), correct(1, 0, 7, 3), correct(1, 8, 20, 4)]
        self.answered(before, history(1, 0), spans((0, 3), (8, 4), (21, 1)))

    def test_one_supplier_may_have_several_spans(self):
        before = open_with(1) + [correct(1, 5, 15, 2), correct(1, 10, 10, 3)]
        self.answered(before, history(1, 0), spans((0, 1), (5, 2), (10, 3), (11, 2), (16, 1)))

    def test_a_fact_that_reaches_to_the_last_day(self):
        self.answered(open_with(1) + [request(1, 2, 7), day(3)], history(1, 3), spans((0, 1), (7, 2)))
        late = open_with(1) + [day(19700)]
        self.answered(late + [correct(1, 19990, 20000, 2)], history(1, 19700), spans((0, 1), (19990, 2)))
        self.answered(late + [correct(1, 20000, 20000, 2)], history(1, 19700), spans((0, 1), (20000, 2)))
        self.answered(late + [correct(1, 19990, 19999, 2)], history(1, 19700), spans((0, 1), (19990, 2), (20000, 1)))

    def test_a_fact_that_is_day_0_alone(self):
        self.answered(open_with(1) + [correct(1, 0, 0, 2)], history(1, 0), spans((0, 2), (1, 1)))

    def test_no_facts(self):
        self.answered(open_with(1, basic=3), history(1, 0), spans((0, 3)))

    def test_as_many_facts_as_there_may_be(self):
        before = open_with(1) + [day(300)] + [correct(1, 2 * number, 2 * number, 2) for number in range(256)]
        expected = flat([(2 * number, 2), (2 * number + 1, 1)] for number in range(256))
        self.answered(before, history(1, 300), [0, 512] + flat(expected))

    def test_ranges(self):
        self.ranges(STORY, history(1, 0), (POINT, DAY))
        self.answered(open_with(16) + [day(20000)], history(16, 20000), spans((0, 1)))

    def test_no_such_point(self):
        self.refused(STORY, history(4, 0), -5, TODAY)
        self.refused(STORY, history(16, 0), -5, TODAY)
        self.refused(open_with(0), history(1, 0), -5)

    def test_known_after_today(self):
        self.refused(STORY, history(1, TODAY + 1), -8, TODAY)
        self.refused(STORY, history(1, 20000), -8, TODAY)
        self.answered(STORY, history(1, TODAY), spans(*KNOWN[24]))
        self.refused(open_with(1), history(1, 1), -8)

    def test_point_comes_before_knowledge(self):
        self.refused(STORY, history(4, TODAY + 1), -5, TODAY)

    def test_minus_1_comes_first(self):
        self.refused(STORY, history(17, TODAY + 1), -1, TODAY)
        self.refused(STORY, history(4, 20001), -1, TODAY)


class DiffersTest(Case):
    def test_ordinary(self):
        self.asked(STORY, differs(1, 3, 20), [0, 2, 3, 12, 30, 20000], TODAY)
        self.asked(STORY, differs(3, 23, 24), [0, 1, 25, 100], TODAY)

    def test_as_known_at_several_days(self):
        expected = {
            (2, 3): [(7, 20000)],
            (3, 10): [(3, 12)],
            (10, 20): [(30, 20000)],
            (20, 24): [(25, 29)],
            (3, 20): [(3, 12), (30, 20000)],
            (3, 24): [(3, 12), (25, 20000)],
            (10, 24): [(25, 20000)],
            (0, 10): [(3, 20000)],
            (0, 20): [(3, 29)],
            (0, 60): [(3, 24)],
        }
        for (j, k), rows in expected.items():
            self.answered(STORY, differs(1, j, k), stretches(*rows))
            self.answered(STORY, differs(1, k, j), stretches(*rows))

    def test_no_such_day(self):
        for j, k in ((0, 2), (3, 9), (10, 19), (20, 23), (24, 60)):
            self.answered(STORY, differs(1, j, k), [0, 0])
        self.answered(STORY, differs(2, 0, 60), [0, 0])
        self.answered(open_with(1), differs(1, 0, 0), [0, 0])

    def test_another_fact_that_names_the_same_supplier(self):
        before = open_with(1) + [correct(1, 5, 10, 2), day(1), correct(1, 5, 10, 2), correct(1, 11, 20, 1)]
        self.answered(before, differs(1, 0, 1), [0, 0])

    def test_the_same_day_of_knowledge(self):
        for k in (0, 3, 10, 24, TODAY):
            self.answered(STORY, differs(1, k, k), [0, 0])

    def test_stretches_that_touch_are_one_although_the_suppliers_are_others(self):
        before = open_with(1) + [day(1), correct(1, 5, 10, 2), correct(1, 11, 15, 3)]
        self.answered(before, differs(1, 0, 1), stretches((5, 15)))
        before = open_with(1) + [correct(1, 5, 10, 2), correct(1, 11, 15, 3), day(1), correct(1, 5, 15, 4)]
        self.answered(before, differs(1, 0, 1), stretches((5, 15)))
        before = open_with(1) + [correct(1, 5, 10, 2), correct(1, 11, 15, 3), day(1), correct(1, 5, 10, 3)]
        self.answered(before + [correct(1, 11, 15, 2)], differs(1, 0, 1), stretches((5, 15)))

    def test_stretches_with_one_day_between_them_are_two(self):
        before = open_with(1) + [day(1), correct(1, 5, 10, 2), correct(1, 12, 15, 2)]
        self.answered(before, differs(1, 0, 1), stretches((5, 10), (12, 15)))
        before = open_with(1) + [correct(1, 11, 11, 2), day(1), correct(1, 5, 15, 2)]
        self.answered(before, differs(1, 0, 1), stretches((5, 10), (12, 15)))

    def test_day_0_alone(self):
        before = open_with(1) + [day(1), correct(1, 0, 0, 2)]
        self.answered(before, differs(1, 0, 1), stretches((0, 0)))

    def test_to_the_last_day(self):
        late = open_with(1) + [day(19700)]
        self.answered(late + [correct(1, 20000, 20000, 2)], differs(1, 0, 19700), stretches((20000, 20000)))
        self.answered(late + [correct(1, 19999, 19999, 2)], differs(1, 0, 19700), stretches((19999, 19999)))
        self.answered(late + [correct(1, 19990, 20000, 2)], differs(1, 19700, 19699), stretches((19990, 20000)))

    def test_only_this_point(self):
        before = open_with(2) + [day(1), correct(1, 5, 10, 2), correct(2, 20, 30, 2)]
        self.answered(before, differs(1, 0, 1), stretches((5, 10)))
        self.answered(before, differs(2, 0, 1), stretches((20, 30)))

    def test_ranges(self):
        self.ranges(STORY, differs(1, 0, 0), (POINT, DAY, DAY))
        self.answered(open_with(16) + [day(20000)], differs(16, 20000, 20000), [0, 0])

    def test_no_such_point(self):
        self.refused(STORY, differs(4, 0, 10), -5, TODAY)
        self.refused(STORY, differs(16, 0, 10), -5, TODAY)
        self.refused(open_with(0), differs(1, 0, 0), -5)

    def test_known_after_today(self):
        for j, k in ((TODAY + 1, 0), (0, TODAY + 1), (TODAY + 1, TODAY + 1), (20000, 3), (3, 20000)):
            self.refused(STORY, differs(1, j, k), -8, TODAY)
        self.answered(STORY, differs(1, TODAY, 3), stretches((3, 12), (25, 20000)))
        self.answered(STORY, differs(1, 3, TODAY), stretches((3, 12), (25, 20000)))
        self.answered(STORY, differs(1, TODAY, TODAY), [0, 0])

    def test_point_comes_before_knowledge(self):
        self.refused(STORY, differs(4, TODAY + 1, 0), -5, TODAY)
        self.refused(STORY, differs(4, 0, TODAY + 1), -5, TODAY)

    def test_minus_1_comes_first(self):
        self.refused(STORY, differs(17, TODAY + 1, 0), -1, TODAY)
        self.refused(STORY, differs(4, TODAY + 1, 20001), -1, TODAY)


class SuppliedTest(Case):
    def test_ordinary(self):
        self.asked(STORY, supplied(2, 8, 3), [0, 2, 1, 3], TODAY)
        self.asked(STORY, supplied(1, 8, 3), [0, 1, 2], TODAY)
        self.asked(STORY, supplied(4, 8, 3), [0, 0], TODAY)

    def test_a_day_that_is_over_as_known_at_several_days(self):
        expected = {
            (1, 8): {0: [1, 2], 2: [1, 2], 3: [2], 9: [2], 10: [2], 60: [2]},
            (2, 8): {0: [3], 2: [3], 3: [1, 3], 9: [1, 3], 10: [3], 60: [3]},
            (3, 8): {0: [], 3: [], 9: [], 10: [1], 60: [1]},
            (2, 24): {2: [3], 3: [1, 3], 20: [1, 3], 23: [1, 3], 24: [1, 3], 60: [1, 3]},
            (2, 25): {2: [3], 3: [1, 3], 20: [1, 3], 23: [1, 3], 24: [], 60: []},
            (2, 35): {2: [3], 3: [1, 3], 19: [1, 3], 20: [3], 23: [3], 24: []},
            (1, 35): {2: [1, 2], 3: [2], 19: [2], 20: [1, 2], 23: [1, 2], 24: [1, 2, 3]},
        }
        for (supplier, on), by_k in expected.items():
            for k, points in by_k.items():
                self.answered(STORY, supplied(supplier, on, k), [0, len(points)] + points)

    def test_a_failed_supplier_may_be_asked_for(self):
        self.answered(STORY, supplied(2, 10, TODAY), [0, 1, 3])
        self.answered(STORY, supplied(2, 13, TODAY), [0, 2, 1, 3])
        self.answered(open_with(2) + [fail(2)], supplied(2, 0, 0), [0, 0])

    def test_all_points_in_order(self):
        self.answered(open_with(16), supplied(1, 0, 0), [0, 16] + list(range(1, 17)))
        before = open_with(16) + [correct(at, 5, 5, 2) for at in (16, 3, 9, 1)]
        self.answered(before, supplied(2, 5, 0), [0, 4, 1, 3, 9, 16])
        self.answered(before, supplied(2, 6, 0), [0, 0])

    def test_no_points(self):
        self.answered(open_with(0), supplied(1, 0, 0), [0, 0])

    def test_the_first_and_the_last_day(self):
        before = open_with(2) + [correct(1, 0, 0, 2), request(2, 2, 7), day(3)]
        self.answered(before, supplied(2, 0, 3), [0, 1, 1])
        self.answered(before, supplied(2, 1, 3), [0, 0])
        self.answered(before, supplied(2, 20000, 3), [0, 1, 2])
        self.answered(before, supplied(2, 20000, 2), [0, 0])

    def test_ranges(self):
        self.ranges(STORY, supplied(1, 8, 0), (SUPPLIER, DAY, DAY))
        self.answered(open_with(1, basic=8, suppliers=8) + [day(20000)], supplied(8, 20000, 20000), [0, 1, 1])

    def test_no_such_supplier(self):
        self.refused(STORY, supplied(5, 8, 0), -6, TODAY)
        self.refused(STORY, supplied(8, 8, 0), -6, TODAY)
        self.answered(STORY, supplied(4, 8, 0), [0, 0])

    def test_known_after_today(self):
        self.refused(STORY, supplied(2, 8, TODAY + 1), -8, TODAY)
        self.refused(STORY, supplied(2, 8, 20000), -8, TODAY)
        self.answered(STORY, supplied(2, 8, TODAY), [0, 1, 3])
        self.refused(open_with(1), supplied(1, 0, 1), -8)

    def test_supplier_comes_before_knowledge(self):
        self.refused(STORY, supplied(5, 8, TODAY + 1), -6, TODAY)

    def test_minus_1_comes_first(self):
        self.refused(STORY, supplied(9, 8, TODAY + 1), -1, TODAY)
        self.refused(STORY, supplied(5, 20001, TODAY + 1), -1, TODAY)


class FactsTest(Case):
    def test_ordinary(self):
        expected = [0, 4, 7, 20000, 2, 3, 3, 12, 3, 10, 30, 20000, 1, 20, 25, 29, 1, 24]
        self.asked(STORY, facts(1), expected, TODAY)
        self.asked(STORY, facts(2), [0, 0], TODAY)
        self.asked(STORY, facts(3), [0, 2, 0, 100, 2, 0, 25, 100, 1, 24], TODAY)

    def test_in_the_order_in_which_they_were_put_on_record(self):
        before = open_with(2) + [correct(1, 30, 40, 2), correct(2, 0, 0, 2), correct(1, 5, 6, 3), correct(1, 30, 40, 2)]
        self.answered(before, facts(1), [0, 3, 30, 40, 2, 0, 5, 6, 3, 0, 30, 40, 2, 0])
        self.answered(before, facts(2), [0, 1, 0, 0, 2, 0])

    def test_a_confirmed_request(self):
        before = open_with(1) + [request(1, 2, 9), correct(1, 30, 40, 3), day(50)]
        self.answered(before, facts(1), [0, 2, 30, 40, 3, 0, 9, 29, 2, 3])

    def test_confirmed_ones_lie_behind_what_was_put_on_record_while_they_waited(self):
        before = open_with(2) + [request(2, 2, 9), request(1, 2, 9), day(1), correct(1, 0, 1, 3), day(2)]
        before += [correct(1, 2, 2, 3), day(9), correct(1, 3, 3, 3)]
        self.answered(before, facts(1), [0, 4, 0, 1, 3, 1, 2, 2, 3, 2, 9, 20000, 2, 3, 3, 3, 3, 9])
        self.answered(before, facts(2), [0, 1, 9, 20000, 2, 3])

    def test_several_requests_for_one_point(self):
        before = open_with(1) + [request(1, 2, 50), day(3), request(1, 3, 20), day(100)]
        self.answered(before, facts(1), [0, 2, 50, 20000, 2, 3, 20, 49, 3, 8])

    def test_requests_that_are_not_confirmed_put_nothing_on_record(self):
        for ended in (object_to(1, 1), withdraw(1), fail(2)):
            self.answered(open_with(1) + [request(1, 2, 9), ended, day(50)], facts(1), [0, 0])
        self.answered(open_with(1) + [request(1, 2, 9), day(2)], facts(1), [0, 0])

    def test_a_failed_supplier_span_by_span_and_point_by_point(self):
        before = open_with(2) + [correct(2, 8, 9, 2), correct(1, 10, 20, 2), correct(1, 15, 17, 3), day(12), fail(2)]
        self.answered(before, facts(1), [0, 4, 10, 20, 2, 0, 15, 17, 3, 0, 13, 14, 1, 12, 18, 20, 1, 12])
        self.answered(before, facts(2), [0, 1, 8, 9, 2, 0])

    def test_a_failed_supplier_of_a_span_to_come(self):
        before = open_with(1) + [correct(1, 10, 20, 2)]
        for today, first in ((8, 10), (9, 10), (10, 11), (19, 20)):
            self.answered(before + [day(today), fail(2)], facts(1), [0, 2, 10, 20, 2, 0, first, 20, 1, today])

    def test_a_refused_one_is_not_on_record(self):
        before = open_with(1) + [correct(1, 10, 9, 2), vacate(1, 10), correct(1, 0, 0, 5), fail(1)]
        self.answered(before, facts(1), [0, 0])

    def test_as_many_as_there_may_be(self):
        before = open_with(1) + [correct(1, on, 300, 2 + on % 3) for on in range(256)]
        expected = [number for on in range(256) for number in (on, 300, 2 + on % 3, 0)]
        self.asked(before, facts(1), [0, 256] + expected, 0, [correct(1, 0, 0, 2), facts(1), vacate(1, 300)])

    def test_ranges(self):
        self.ranges(STORY, facts(1), (POINT,))
        self.answered(open_with(16) + [correct(16, 0, 400, 2)], facts(16), [0, 1, 0, 400, 2, 0])

    def test_no_such_point(self):
        self.refused(STORY, facts(4), -5, TODAY)
        self.refused(STORY, facts(16), -5, TODAY)
        self.refused(open_with(0), facts(1), -5)


class NeverChangesTest(unittest.TestCase):
    def test_what_was_known_at_a_day_that_is_over(self):
        """The last answers of each day, asked for again after every later call."""
        asked = {}
        for count in range(4, len(STORY) + 1):
            before = STORY[:count]
            today = run(before + [state()])[-1][1]
            questions = [history(at, k) for at in (1, 2, 3) for k in range(today + 1)]
            got = run(before + questions)[count:]
            for question, answer in zip(questions, got):
                if question[2] < today:
                    self.assertEqual(asked.setdefault(tuple(question), answer), answer, (count, question))
                if question[2] == today and count < len(STORY) and STORY[count][0] == 3:
                    asked[tuple(question)] = answer
        self.assertGreater(len(asked), 3 * 50)


if __name__ == "__main__":
    unittest.main()
