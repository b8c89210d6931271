"""The form of what is handed in and given back."""

import contextlib
import io
import unittest

from fundgates import desk

# class 0; create; a refused create; request; point; pocket; a refused pocket; release; stock; clear; fund.
LINE = [
    1, 0, 500000, 1,
    3, 0, 2, 10,
    3, 1, 2, 10,
    5, 0, 2, 4, 1,
    9, 4, 3, 0, 0, 0,
    9, 0,
    10, 0,
    10, 7,
    11, 0, 8,
    8, 0, 4, 6,
    4, 0, 2, 3, 1,
    6, 0, 1,
    7, 0, 1,
    0,
    2, 17,
]
GIVEN = [
    1, 0,
    1, 10,
    1, -2,
    1, 0,
    9, 0, 4, 4, 0, 0, 0, 0, 0, 0,
    1, -1,
    1, 0,
    1, -2,
    21, 8, 0, 0, 8] + [0] * 17 + [
    1, 6,
    1, 5,
    1, -5,
    1, 0,
    1, 0,
    1, 1000000,
]


class Desk(unittest.TestCase):
    def test_all_calls_in_one_list(self):
        self.assertEqual(desk.answers(LINE), GIVEN)

    def test_gives_back_a_list_of_whole_numbers(self):
        given = desk.answers(LINE)
        self.assertIs(type(given), list)
        self.assertEqual({type(number) for number in given}, {int})

    def test_any_call_may_be_first(self):
        firsts = (
            ([0], [1, 0]), ([1, 0, 1, 0], [1, 0]), ([2, 3], [1, 1000000]), ([3, 0, 0, 1], [1, -2]),
            ([4, 0, 0, 1, 1], [1, -2]), ([5, 0, 0, 1, 0], [1, -2]), ([6, 0, 1], [1, -6]), ([7, 0, 1], [1, -2]),
            ([8, 0, 0, 1], [1, -2]), ([9, 4, 0, 0, 0, 0], [9] + [0] * 9), ([10, 0], [1, -2]), ([11, 0, 1], [1, -6]))
        for calls, given in firsts:
            self.assertEqual(desk.answers(calls), given)

    def test_the_list_handed_in_is_as_it_was(self):
        calls = list(LINE)
        desk.answers(calls)
        self.assertEqual(calls, LINE)

    def test_the_list_handed_in_is_not_changed_for_a_while_either(self):
        class Fixed(list):
            def refuse(self, *args):
                raise AssertionError("the list is changed")

            __setitem__ = __delitem__ = __iadd__ = __imul__ = refuse
            append = extend = insert = pop = remove = clear = sort = reverse = refuse

        self.assertEqual(desk.answers(Fixed(LINE)), GIVEN)

    def test_what_is_given_back_is_the_callers_own(self):
        calls = list(LINE)
        given = desk.answers(calls)
        given[0] = 99
        given.clear()
        self.assertEqual(calls, LINE)
        self.assertEqual(desk.answers(calls), GIVEN)

    def test_nothing_is_kept_from_one_time_to_the_next(self):
        kept = LINE[:-3]
        first = desk.answers(kept)
        self.assertEqual(desk.answers(kept), first)
        self.assertEqual(desk.answers([3, 0, 2, 1]), [1, -2])
        self.assertEqual(desk.answers([6, 0, 1]), [1, -6])
        self.assertEqual(desk.answers([11, 0, 1]), [1, -6])
        self.assertEqual(desk.answers([9, 4, 0, 0, 0, 0]), [9] + [0] * 9)
        desk.answers([2, 5])
        self.assertEqual(desk.answers([2, 6]), [1, 1000000])

    def test_nothing_is_printed(self):
        out = io.StringIO()
        err = io.StringIO()
        with contextlib.redirect_stdout(out), contextlib.redirect_stderr(err):
            desk.answers(LINE)
        self.assertEqual((out.getvalue(), err.getvalue()), ("", ""))

    def test_the_longest_lines(self):
        self.assertEqual(desk.answers([2, 7] * 400), [1, 1000000] + [1, 7] * 399)
        calls = [1, 0, 1, 0, 3, 0, 0, 1000000000]
        for turn in range(199):
            calls += [5, 0, 0, 1000, turn % 2]
        calls += [9, 4, 1, 0, 0, 0] * 199
        given = desk.answers(calls)
        self.assertEqual(len(given), 4 + 2 * 199 + 10 * 199)
        # A millionth of what is in issue, rounded down.
        self.assertEqual(given[-10:], [9, 198, 999, 999, 0, 0, 0, 0, 0, 0])

    def test_long_rows_of_refused_points(self):
        calls = ([9, 100] + [10 ** 18] * 100) * 166
        self.assertEqual(desk.answers(calls), [1, -1] * 166)
