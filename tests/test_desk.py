"""The form of what is handed in and given back."""

import contextlib
import io
import unittest

from fundgates import desk

# All calls but clear, refused ones among them.
USED = [
    1, 0, 500000, 1,
    3, 0, 2, 10,
    3, 1, 2, 10,
    8, 0, 4, 6,
    5, 0, 2, 4, 1,
    5, 0, 2, 3, 0,
    9, 4, 3, 0, 0, 0,
    9, 0,
    10, 0,
    10, 7,
    11, 0, 8,
    13, 0, 2,
    13, 0, 20,
    14, 0,
    14, 1,
    14, 2,
    15, 0,
    15, 1,
    16, 2,
    16, -1,
    12, 2,
    12, 20,
    16, 2,
    17, 2,
    17, 99,
    18, 0,
    18, 3,
    19, 0,
    19, -1,
    20, 0, 2,
    20, 1, 2,
    20, 0, 77,
    21, 4, 3, 10, 10, 5,
    21, 4, 0,
    21, -1, 2, 6, 6,
    22,
    6, 1, 2,
    4, 0, 2, 3, 1,
    6, 1, 1,
    7, 0, 1,
    6, 1, 1,
    18, 0,
    2, 17,
    2, 0,
    22,
]
LINE = USED + [
    0,
    22,
    18, 0,
    2, 18,
]
GIVEN = [
    1, 0,
    1, 10,
    1, -2,
    1, 6,
    1, 0,
    1, 1,
    # 5 might go: 4 in kind and 1 in money; 6 x 4 / 10 of the thing.
    9, 0, 5, 5, 0, 0, 0, 0, 0, 0,
    1, -1,
    1, 0,
    1, -2,
    21, 8, 0, 0, 8] + [0] * 17 + [
    2, 5, 2,
    1, -1,
    8, 0, 2, 0, 1, 4, 4, 0, 0,
    8, 0, 2, 0, 0, 3, 1, 0, 2,
    1, -6,
    21, 2, 0, 0, 2] + [0] * 17 + [
    1, -2,
    2, 11, 0,
    1, -1,
    1, 11,
    1, -1,
    2, 0, 11,
    5, 0, 0, 0, 0, 2,
    1, -1,
    6, 5, 10, 5, 500000, 1, 0,
    1, -2,
    5, 0, 0, 0, 0, 4,
    1, -2,
    5, 0, 5, 5, 8, 8,
    1, -6,
    1, -1,
    4, 0, 2, 2, 0,
    1, -1,
    1, -1,
    4, 1, 1000000, 2, 1,
    1, 0,
    1, 4,
    1, -5,
    1, 0,
    1, -7,
    6, 5, 10, 5, 500000, 1, 1,
    1, 1000000,
    1, -1,
    4, 1, 17, 2, 1,
    1, 0,
    4, 0, 1000000, 0, 0,
    1, -2,
    1, 1000000,
]
WHOLE_NUMBERS = (0, 3, 1, 3, 4, 4, 2, 2, 3, 0, 1, 2, 1, 2, 1, 1, 1, 1, 1, 1, 2, 1, 0)


class Desk(unittest.TestCase):
    def test_all_calls_in_one_list(self):
        self.assertEqual(desk.answers(LINE), GIVEN)

    def test_gives_back_a_list_of_whole_numbers(self):
        given = desk.answers(LINE)
        self.assertIs(type(given), list)
        self.assertEqual({type(number) for number in given}, {int})

    def test_any_call_may_be_first(self):
        firsts = (
            ([0], [1, 0]), ([1, 0, 1, 0], [1, 0]), ([2, 3], [1, 1000000]), ([3, 0, 0, 1], [1, -2]),
            ([4, 0, 0, 1, 1], [1, -2]), ([5, 0, 0, 1, 0], [1, -2]), ([6, 0, 1], [1, -6]), ([7, 0, 1], [1, -2]),
            ([8, 0, 0, 1], [1, -2]), ([9, 4, 0, 0, 0, 0], [9] + [0] * 9), ([10, 0], [1, -2]), ([11, 0, 1], [1, -6]),
            ([12, 0], [1, 0]), ([13, 0, 0], [1, -2]), ([14, 0], [1, -6]), ([15, 0], [1, -2]), ([16, 0], [2, 0, 0]),
            ([17, 0], [5] + [0] * 5), ([18, 0], [1, -2]), ([19, 0], [1, -2]), ([20, 0, 0], [1, -6]),
            ([21, 1, 1, 2], [2, 0, 1]), ([22], [4, 0, 1000000, 0, 0]))
        self.assertEqual([calls[0] for calls, given in firsts], list(range(23)))
        for calls, given in firsts:
            self.assertEqual(desk.answers(calls), given)

    def test_how_many_numbers_each_call_takes(self):
        for number, count in enumerate(WHOLE_NUMBERS):
            rows = ([0], [3, 0, 22, 22], [100] + [10 ** 18] * 100) if number in (9, 21) else ([],)
            for row in rows:
                for value in (10 ** 18, -10 ** 18):
                    first = [number] + [value] * count + row
                    alone = desk.answers(first)
                    # What stands behind is read from the right place on.
                    self.assertEqual(desk.answers(first + [22])[len(alone):][0], 4, first)
                    self.assertEqual(desk.answers(first + [22])[:len(alone)], alone, first)

    def test_far_numbers_are_refused(self):
        for value in (10 ** 18, -10 ** 18):
            for number, count in enumerate(WHOLE_NUMBERS):
                if count and number not in (9, 21):
                    given = desk.answers([number] + [value] * count)
                    self.assertEqual((len(given), given[0]), (2, 1))
                    self.assertLess(given[1], 0)
            for number in (9, 21):
                for row in ([], [value], [value] * 4, [value] * 100):
                    handed = [number] + ([0] if number == 21 else []) + [len(row)] + row
                    self.assertEqual(desk.answers(handed), [1, -1])

    def test_two_lines_are_one_behind_a_clear(self):
        given = desk.answers(USED)
        self.assertEqual(desk.answers(USED + [0] + USED), given + [1, 0] + given)

    def test_the_list_handed_in_is_as_it_was(self):
        calls = list(LINE)
        desk.answers(calls)
        self.assertEqual(calls, LINE)

    def test_the_list_handed_in_is_not_changed_for_a_while_either(self):
        class Fixed(list):
            def refuse(self, *args):
                raise AssertionError("the list is changed")

            __setitem__ = __delitem__ = __iadd__ = __imul__ = refuse
            append = extend = insert = pop = remove = clear = sort = reverse = refuse

        self.assertEqual(desk.answers(Fixed(LINE)), GIVEN)

    def test_what_is_given_back_is_the_callers_own(self):
        calls = list(LINE)
        given = desk.answers(calls)
        given[0] = 99
        given.clear()
        self.assertEqual(calls, LINE)
        self.assertEqual(desk.answers(calls), GIVEN)

    def test_nothing_is_kept_from_one_time_to_the_next(self):
        first = desk.answers(USED)
        self.assertEqual(desk.answers(USED), first)
        self.assertEqual(desk.answers([3, 0, 2, 1]), [1, -2])
        self.assertEqual(desk.answers([6, 0, 1]), [1, -6])
        self.assertEqual(desk.answers([11, 0, 1]), [1, -6])
        self.assertEqual(desk.answers([9, 4, 0, 0, 0, 0]), [9] + [0] * 9)
        self.assertEqual(desk.answers([12, 2, 16, 2, 17, 2]), [1, 0, 2, 0, 0, 5, 0, 0, 0, 0, 0])
        self.assertEqual(desk.answers([13, 0, 2, 14, 0, 15, 0, 18, 0, 19, 0, 20, 0, 2]),
                         [1, -2, 1, -6, 1, -2, 1, -2, 1, -2, 1, -6])
        desk.answers([2, 5])
        self.assertEqual(desk.answers([2, 6]), [1, 1000000])
        self.assertEqual(desk.answers([22]), [4, 0, 1000000, 0, 0])

    def test_nothing_is_printed(self):
        out = io.StringIO()
        err = io.StringIO()
        with contextlib.redirect_stdout(out), contextlib.redirect_stderr(err):
            desk.answers(LINE)
        self.assertEqual((out.getvalue(), err.getvalue()), ("", ""))

    def test_the_longest_lines(self):
        self.assertEqual(desk.answers([2, 7] * 400), [1, 1000000] + [1, 7] * 399)
        calls = [1, 0, 1, 0, 3, 0, 0, 1000000000]
        for turn in range(199):
            calls += [5, 0, 0, 1000, turn % 2]
        calls += [9, 4, 1, 0, 0, 0] * 199
        given = desk.answers(calls)
        self.assertEqual(len(given), 4 + 2 * 199 + 10 * 199)
        # A millionth of what is in issue, rounded down.
        self.assertEqual(given[-10:], [9, 198, 999, 999, 0, 0, 0, 0, 0, 0])

    def test_long_rows_that_are_refused(self):
        calls = ([9, 100] + [10 ** 18] * 100) * 166
        self.assertEqual(desk.answers(calls), [1, -1] * 166)
        calls = ([21, 5, 100] + [3] * 100) * 165
        self.assertEqual(desk.answers(calls), [1, -1] * 165)

    def test_the_longest_answers(self):
        calls = [1, 0, 1, 0, 3, 0, 19, 1000000000]
        for turn in range(200):
            calls += [5, 0, 19, 1000, turn % 2]
        calls += [15, 0] * 198
        given = desk.answers(calls)
        self.assertEqual(given[-22:], [21, 200000] + [0] * 19 + [200000])
        self.assertEqual(len(given), 2 * 202 + 22 * 198)
        calls = ([21, 10 ** 9, 20] + [10 ** 9] * 20) * 400
        self.assertEqual(desk.answers(calls), ([21, 0] + [5 * 10 ** 7] * 20) * 400)
