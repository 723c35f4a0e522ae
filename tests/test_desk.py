"""The interface: how calls lie in the one list, what is given back, and that nothing else happens."""

import contextlib
import io
import unittest

from supplierdays.desk import answers
from tests.helper import Case
from tests.helper import bill, correct, day, fail, holiday, object_to, one_list, open_house, point, request
from tests.helper import vacate, volume, withdraw

DAY_IN_THE_HOUSE = [
    open_house(1, 4, 2, 5), holiday(3), point(), point(), request(1, 2, 8), request(2, 3, 8), object_to(2, 1),
    request(2, 4, 9), withdraw(3), day(4), vacate(1, 100), correct(2, 0, 3, 4), volume(2, 1, 250), bill(4, 0, 30),
    fail(2), bill(1, 0, 30), correct(2, 1, 1, 1), bill(4, 0, 30), bill(1, 0, 30), point(),
]

ITS_ANSWERS = [
    1, 0, 1, 0, 2, 0, 1, 2, 0, 2, 4, 0, 1, 1, 2, 4, 0, 2, 1, 2, 1, 0,
    4, 0, 3, 1, 2, 1, 0, 2, 0, 1, 2, 0, 20000, 1, 0, 1, 0, 2, 0, 250,
    2, 0, 1, 2, 0, 0, 1, 0, 2, 0, -250, 2, 0, 250, 2, 0, 3,
]


class Sealed(list):
    """A list that can't be changed."""

    def sealed(self, *arguments, **named):
        raise AssertionError("what was handed in is changed")

    append = extend = insert = pop = remove = clear = sort = reverse = sealed
    __setitem__ = __delitem__ = __iadd__ = __imul__ = sealed


class AnswersTest(Case):
    def test_every_call_in_one_list(self):
        self.assertEqual(answers(one_list(DAY_IN_THE_HOUSE)), ITS_ANSWERS)

    def test_one_call(self):
        self.assertEqual(answers([0, 1, 4, 2, 5]), [1, 0])
        self.assertEqual(answers([2]), [1, -2])
        self.assertEqual(answers([3, -1]), [1, -1])

    def test_refused_and_accepted_ones_behind_one_another(self):
        self.assertEqual(answers([2, 0, 9, 4, 2, 5, 0, 1, 4, 2, 5, 2, 4, 2, 2, 7, 2]),
                         [1, -2, 1, -1, 1, 0, 2, 0, 1, 1, -5, 2, 0, 2])

    def test_gives_back_a_list_of_whole_numbers(self):
        given_back = answers(one_list(DAY_IN_THE_HOUSE))
        self.assertIs(type(given_back), list)
        self.assertEqual({type(number) for number in given_back}, {int})

    def test_each_time_gives_back_a_list_of_its_own(self):
        first = answers([2])
        first.append(7)
        self.assertEqual(answers([2]), [1, -2])

    def test_what_is_handed_in_stays_as_it_was(self):
        calls = one_list(DAY_IN_THE_HOUSE)
        before = list(calls)
        answers(calls)
        self.assertEqual(calls, before)
        self.assertEqual(answers(Sealed(calls)), ITS_ANSWERS)

    def test_two_runs_answer_alike(self):
        calls = one_list(DAY_IN_THE_HOUSE)
        self.assertEqual(answers(calls), answers(calls))

    def test_nothing_is_kept_between_runs(self):
        answers(one_list(DAY_IN_THE_HOUSE))
        self.assertEqual(answers(point()), [1, -2])
        self.assertEqual(answers(one_list([open_house(), point(), fail(2), fail(2)])), [1, 0, 2, 0, 1, 2, 0, 0, 1, -6])

    def test_prints_nothing(self):
        out, err = io.StringIO(), io.StringIO()
        with contextlib.redirect_stdout(out), contextlib.redirect_stderr(err):
            answers(one_list(DAY_IN_THE_HOUSE))
        self.assertEqual((out.getvalue(), err.getvalue()), ("", ""))

    def test_most_calls(self):
        calls = [open_house(), point()] + [day(number) for number in range(1, 299)]
        self.assertEqual(answers(one_list(calls)), [1, 0, 2, 0, 1] + [2, 0, 0] * 298)


if __name__ == "__main__":
    unittest.main()
