"""The interface: how calls lie in the one list, what is given back, and that nothing else happens."""

import contextlib
import io
import pathlib
import subprocess
import sys
import unittest

from supplierdays.desk import answers
from tests.helper import Case
from tests.helper import bill, business_after, business_between, correct, day, differs, facts, fail, history, holiday
from tests.helper import object_to, one_list, open_house, point, request, request_is, run, state, supplied
from tests.helper import vacate, volume, volume_of, volumes, who, withdraw

ROOT = pathlib.Path(__file__).resolve().parent.parent

DAY_IN_THE_HOUSE = [
    open_house(1, 4, 2, 5), holiday(3), point(), point(), request(1, 2, 8), request(2, 3, 8), object_to(2, 1),
    request(2, 4, 9), withdraw(3), day(4), vacate(1, 100), correct(2, 0, 3, 4), volume(2, 1, 250), bill(4, 0, 30),
    fail(2), bill(1, 0, 30), correct(2, 1, 1, 1), bill(4, 0, 30), bill(1, 0, 30), point(),
    who(1, 50, 3), history(2, 4), volume_of(4, 0, 30, 4), volumes(0, 30, 4), business_after(2, 1),
    business_between(0, 8), request_is(1), differs(1, 3, 4), supplied(1, 2, 4), facts(1), state(),
]

ITS_ANSWERS = [
    1, 0, 1, 0, 2, 0, 1, 2, 0, 2, 4, 0, 1, 1, 2, 4, 0, 2, 1, 2, 1, 0,
    4, 0, 3, 1, 2, 1, 0, 2, 0, 1, 2, 0, 20000, 1, 0, 1, 0, 2, 0, 250,
    2, 0, 1, 2, 0, 0, 1, 0, 2, 0, -250, 2, 0, 250, 2, 0, 3,
    2, 0, 2, 10, 0, 4, 0, 4, 1, 1, 2, 4, 4, 1, 2, 0, 0, 6, 0, 250, 0, 0, 0, 250, 2, 0, 4, 2, 0, 5,
    7, 0, 1, 2, 8, 1, 2, 1, 4, 0, 1, 8, 20000, 4, 0, 2, 1, 3,
    14, 0, 3, 8, 20000, 2, 3, 100, 20000, 1, 4, 8, 99, 1, 4,
    12, 0, 4, 3, 3, 0, 5, 1, 1, 0, 1, 0, 0,
]


class Sealed(list):
    """A list that can't be changed."""

    def sealed(self, *arguments, **named):
        raise AssertionError("what was handed in is changed")

    append = extend = insert = pop = remove = clear = sort = reverse = sealed
    __setitem__ = __delitem__ = __iadd__ = __imul__ = sealed


class AnswersTest(Case):
    def test_every_call_in_one_list(self):
        self.assertEqual({call[0] for call in DAY_IN_THE_HOUSE}, set(range(23)))
        self.assertEqual(answers(one_list(DAY_IN_THE_HOUSE)), ITS_ANSWERS)

    def test_asking_changes_nothing(self):
        asking = DAY_IN_THE_HOUSE[-11:]
        self.assertEqual([call[0] for call in asking], list(range(12, 23)))
        without = DAY_IN_THE_HOUSE[:-11]
        between = [part for call in without for part in [call] + asking]
        self.assertLessEqual(len(between), 300)
        self.assertEqual(run(between)[::12], run(without))

    def test_one_call(self):
        self.assertEqual(answers([0, 1, 4, 2, 5]), [1, 0])
        self.assertEqual(answers([2]), [1, -2])
        self.assertEqual(answers([3, -1]), [1, -1])
        self.assertEqual(answers([22]), [1, -2])
        self.assertEqual(answers([16, 0, 101]), [1, -1])

    def test_refused_and_accepted_ones_behind_one_another(self):
        self.assertEqual(answers([2, 0, 9, 4, 2, 5, 0, 1, 4, 2, 5, 2, 4, 2, 2, 7, 2]),
                         [1, -2, 1, -1, 1, 0, 2, 0, 1, 1, -5, 2, 0, 2])

    def test_gives_back_a_list_of_whole_numbers(self):
        given_back = answers(one_list(DAY_IN_THE_HOUSE))
        self.assertIs(type(given_back), list)
        self.assertEqual({type(number) for number in given_back}, {int})

    def test_each_time_gives_back_a_list_of_its_own(self):
        first = answers([2])
        first.append(7)
        self.assertEqual(answers([2]), [1, -2])

    def test_what_is_handed_in_stays_as_it_was(self):
        calls = one_list(DAY_IN_THE_HOUSE)
        before = list(calls)
        answers(calls)
        self.assertEqual(calls, before)
        self.assertEqual(answers(Sealed(calls)), ITS_ANSWERS)

    def test_two_runs_answer_alike(self):
        calls = one_list(DAY_IN_THE_HOUSE)
        self.assertEqual(answers(calls), answers(calls))

    def test_nothing_is_kept_between_runs(self):
        answers(one_list(DAY_IN_THE_HOUSE))
        self.assertEqual(answers(point()), [1, -2])
        self.assertEqual(answers(one_list([open_house(), point(), fail(2), fail(2)])), [1, 0, 2, 0, 1, 2, 0, 0, 1, -6])

        self.assertEqual(answers(one_list([open_house(), point(), state(), facts(1)])),
                         [1, 0, 2, 0, 1, 12, 0, 0, 1, 0, 0, 0, 0, 0, 0, 0, 0, 0, 2, 0, 0])

    def test_reads_and_imports_nothing(self):
        """Neither when it is called nor, but for the package's own modules, when it is imported."""
        script = (
            "import sys\n"
            "before = set(sys.modules)\n"
            "from supplierdays.desk import answers\n"
            "mine = set(sys.modules) - before\n"
            "assert all(name.split('.')[0] == 'supplierdays' for name in mine), mine\n"
            "seen = []\n"
            "sys.addaudithook(lambda event, arguments: seen.append(event))\n"
            "given_back = answers(%r)\n"
            "happened = list(seen)\n"
            "assert not happened, happened\n"
            "assert given_back == %r\n" % (one_list(DAY_IN_THE_HOUSE), ITS_ANSWERS))
        ended = subprocess.run([sys.executable, "-B", "-c", script], cwd=ROOT, capture_output=True, text=True)
        self.assertEqual((ended.returncode, ended.stdout, ended.stderr), (0, "", ""))

    def test_prints_nothing(self):
        out, err = io.StringIO(), io.StringIO()
        with contextlib.redirect_stdout(out), contextlib.redirect_stderr(err):
            answers(one_list(DAY_IN_THE_HOUSE))
        self.assertEqual((out.getvalue(), err.getvalue()), ("", ""))

    def test_most_calls(self):
        calls = [open_house(), point()] + [day(number) for number in range(1, 299)]
        self.assertEqual(answers(one_list(calls)), [1, 0, 2, 0, 1] + [2, 0, 0] * 298)

    def test_long_answers(self):
        calls = [open_house(), point(), day(200)] + [correct(1, 2 * on, 2 * on, 2) for on in range(150)]
        calls += [history(1, 200), facts(1), differs(1, 199, 200)] * 49
        got = run(calls)
        spans = [number for on in range(150) for number in (2 * on, 2, 2 * on + 1, 1)]
        told = [number for on in range(150) for number in (2 * on, 2 * on, 2, 200)]
        differing = [number for on in range(150) for number in (2 * on, 2 * on)]
        self.assertEqual(got[153:], [[0, 300] + spans, [0, 150] + told, [0, 150] + differing] * 49)


if __name__ == "__main__":
    unittest.main()
