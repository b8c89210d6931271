"""The calls clear, class, fund, suspend and stock."""

from tests.helper import BILLION, FAR, CallCase, ask, ask_behind, house_after, last, plain
from fundgates.house import House

CLASS = ("class", 0, 1000000, 0)
# One call of each that names a class that must be there, but for its class.
WITHOUT_CLASS = (
    ("create", 0, 1), ("transfer", 0, 1, 1), ("request", 0, 1, 0), ("suspend", 1), ("stock", 0, 1), ("pocket",),
    ("holding", 0), ("waits",), ("classinfo",), ("stockat",))


def eleven_calls():
    """The calls payout to counts, each for several holders, classes and places."""
    calls = [("share", 4, [10, 10, 5]), ("counts",)]
    for k in (0, 1, 2, 3, 19):
        for name in ("payout", "requestat", "waits", "money", "things", "classinfo", "stockat"):
            calls.append((name, k))
        for place in (0, 1):
            calls += [("holding", place, k), ("pocketat", place, k)]
    return calls


class Clear(CallCase):
    def test_answers_0(self):
        self.assertEqual(ask(("clear",)), [[0]])

    def test_all_is_as_at_first(self):
        house = house_after(
            CLASS, ("fund", 5), ("create", 0, 3, 40), ("stock", 0, 1, 9), ("request", 0, 3, 7, 1),
            ("request", 0, 3, 7, 0), ("point", [2, 0, 0, 0]), ("pocket", 0), ("release", 0, 10), ("clear",))
        self.assertEqual(plain(house), plain(House()))

    def test_points_requests_pockets_and_classes_begin_anew(self):
        given = ask(
            CLASS, ("create", 0, 3, 40), ("request", 0, 3, 7, 0), ("point", [2, 0, 0, 0]), ("pocket", 0), ("clear",),
            ("fund", 7), ("create", 0, 3, 1), ("withdraw", 0, 1), ("release", 0, 1), CLASS, ("create", 0, 3, 1),
            ("request", 0, 3, 1, 0), ("point", [2, 0, 0, 0]), ("create", 0, 3, 1), ("pocket", 0))
        self.assertEqual(given[5:], [
            [0], [1000000], [-2], [-6], [-6], [0], [1], [0], [0, 1, 1, 0, 0, 0, 0, 0, 0], [1], [0]])


    def test_the_calls_that_tell_something_answer_as_at_the_beginning(self):
        before = (
            CLASS, ("class", 1, 5, 1), ("fund", 5), ("create", 0, 3, 40), ("create", 1, 3, 40), ("stock", 0, 1, 9),
            ("request", 0, 3, 7, 1), ("request", 0, 3, 7, 0), ("request", 1, 3, 9, 0), ("withdraw", 2, 1),
            ("point", [2, 3, 0, 0]), ("pocket", 0), ("pocket", 1), ("release", 0, 10), ("release", 1, 20),
            ("payout", 3), ("release", 0, 1), ("suspend", 1, 1))
        told = eleven_calls()
        at_first = ask(*told)
        self.assertEqual(ask_behind(before + (("clear",),), *told), at_first)
        self.assertEqual(ask_behind(before + (("clear",), ("clear",)), *told), at_first)
        self.assertNotEqual(ask_behind(before, *told), at_first)

    def test_each_of_these_by_itself(self):
        before = (
            CLASS, ("fund", 5), ("create", 0, 3, 40), ("stock", 0, 1, 9), ("request", 0, 3, 7, 1),
            ("request", 0, 3, 7, 0), ("point", [2, 0, 0, 0]), ("pocket", 0), ("release", 0, 10), ("payout", 3),
            ("release", 0, 10))
        for call, used, cleared in (
                (("payout", 3), [10], [0]), (("holding", 0, 3), [39, 13], [-2]),
                (("requestat", 0), [0, 3, 0, 1, 7, 1, 0, 6], [-6]),
                (("waits", 0), [13] + [0] * 3 + [13] + [0] * 16, [-2]), (("money", 3), [10, 10], [0, 0]),
                (("things", 3), [0] * 5, [0] * 5), (("classinfo", 0), [39, 40, 1, 1000000, 0, 0], [-2]),
                (("stockat", 0), [0, 9, 0, 0, 0], [-2]), (("pocketat", 0, 3), [0, 39, 39, 20, 20], [-6]),
                (("share", 4, [10, 10, 5]), [0, 2, 2, 0], [0, 2, 2, 0]), (("counts",), [1, 5, 2, 1], [0, 1000000, 0, 0])):
            self.assert_answer(before, call, used)
            self.assert_answer(before + (("clear",),), call, cleared)

    def test_a_class_made_again_is_a_new_one(self):
        before = (
            CLASS, ("create", 0, 3, 40), ("stock", 0, 1, 80), ("request", 0, 3, 20, 1), ("suspend", 0, 1),
            ("clear",), ("class", 0, 7, 1))
        self.assertEqual(
            ask_behind(before, ("classinfo", 0), ("stockat", 0), ("waits", 0), ("holding", 0, 3)),
            [[0, 0, 0, 7, 1, 0], [0] * 5, [0] * 21, [0, 0]])

    def test_things_that_were_got_are_gone(self):
        before = (CLASS, ("create", 0, 3, 4), ("stock", 0, 1, 9), ("request", 0, 3, 2, 1), ("point", [2, 0, 0, 0]))
        self.assert_answer(before, ("things", 3), [0, 4, 0, 0, 0])
        self.assert_answer(before + (("clear",),), ("things", 3), [0] * 5)


class Class(CallCase):
    def test_new_then_not(self):
        self.assertEqual(ask(CLASS, CLASS, ("class", 1, 1, 1), ("class", 0, 5, 1)), [[0], [1], [0], [1]])

    def test_of_one_that_is_there_only_limit_and_way_change(self):
        before = (CLASS, ("create", 0, 2, 30), ("stock", 0, 4, 8), ("suspend", 0, 1))
        house = house_after(*before)
        wanted = plain(house)
        wanted["classes"][0]["limit"] = 77
        wanted["classes"][0]["way"] = 1
        self.assertEqual(plain(house_after(*before, ("class", 0, 77, 1))), wanted)

    def test_a_new_one_is_empty_and_not_suspended(self):
        self.assertEqual(plain(house_after(("class", 2, 9, 1)))["classes"], [None, None, {
            "limit": 9, "way": 1, "suspended": 0, "created": 0, "cancelled": 0,
            "units": [0] * 20, "stock": [0] * 5}, None])

    def test_edges(self):
        for c in (0, 3):
            self.assert_answer((), ("class", c, 1, 0), [0])
            self.assert_answer((), ("class", c, 1000000, 1), [0])

    def test_out_of_range(self):
        for before in ((), (CLASS,)):
            for c in (-1, 4, -FAR, FAR):
                self.assert_refused(before, ("class", c, 5, 0), -1)
            for limit in (0, 1000001, -1, -FAR, FAR):
                self.assert_refused(before, ("class", 0, limit, 0), -1)
            for way in (-1, 2, -FAR, FAR):
                self.assert_refused(before, ("class", 0, 5, way), -1)

    def test_all_out_of_range(self):
        self.assert_refused((), ("class", 9, 0, 7), -1)


class Fund(CallCase):
    def test_answers_the_limit_before(self):
        self.assertEqual(ask(("fund", 5), ("fund", 5), ("fund", 1000000), ("fund", 1), ("fund", 2)),
                         [[1000000], [5], [5], [1000000], [1]])

    def test_out_of_range(self):
        for limit in (0, 1000001, -1, -FAR, FAR):
            self.assert_refused((("fund", 5),), ("fund", limit), -1)

    def test_a_refusal_leaves_the_limit(self):
        self.assertEqual(ask(("fund", 5), ("fund", 0), ("fund", 6)), [[1000000], [-1], [5]])


class Suspend(CallCase):
    def test_answers_what_was(self):
        self.assertEqual(
            ask(CLASS, ("suspend", 0, 0), ("suspend", 0, 1), ("suspend", 0, 1), ("suspend", 0, 0), ("suspend", 0, 0)),
            [[0], [0], [0], [1], [1], [0]])

    def test_one_class_alone(self):
        self.assertEqual(last(CLASS, ("class", 1, 5, 0), ("suspend", 0, 1), ("suspend", 1, 1)), [0])

    def test_no_class(self):
        for c in (1, 3, 4, -1, FAR, -FAR):
            self.assert_refused((CLASS,), ("suspend", c, 1), -2)

    def test_out_of_range(self):
        for on in (-1, 2, FAR, -FAR):
            self.assert_refused((CLASS,), ("suspend", 0, on), -1)

    def test_no_class_counts_first(self):
        self.assert_refused((CLASS,), ("suspend", 1, 2), -2)


class NoClass(CallCase):
    def test_numbers_beyond_the_classes_with_all_four_there(self):
        before = tuple(("class", c, 5, 0) for c in range(4)) + tuple(("create", c, 0, 9) for c in range(4))
        for call in WITHOUT_CLASS:
            for c in (-1, -4, -5, 4, FAR, -FAR):
                self.assert_refused(before, call[:1] + (c,) + call[1:], -2)
            for c in (0, 3):
                self.assertGreaterEqual(last(*before, call[:1] + (c,) + call[1:])[0], 0)


class Stock(CallCase):
    def test_adds_up(self):
        self.assertEqual(
            ask(CLASS, ("class", 1, 5, 0), ("stock", 0, 2, 7), ("stock", 0, 2, 8), ("stock", 0, 1, 1),
                ("stock", 1, 2, 3), ("stock", 0, 2, 0)),
            [[0], [0], [7], [15], [1], [3], [15]])

    def test_edges(self):
        for thing in (0, 4):
            self.assert_answer((CLASS,), ("stock", 0, thing, 0), [0])
            self.assert_answer((CLASS,), ("stock", 0, thing, BILLION), [BILLION])

    def test_no_class(self):
        for c in (1, 3, 4, -1, FAR, -FAR):
            self.assert_refused((CLASS,), ("stock", c, 0, 1), -2)

    def test_out_of_range(self):
        for thing in (-1, 5, FAR, -FAR):
            self.assert_refused((CLASS,), ("stock", 0, thing, 1), -1)
        for amount in (-1, BILLION + 1, FAR, -FAR):
            self.assert_refused((CLASS,), ("stock", 0, 0, amount), -1)

    def test_too_much(self):
        before = (CLASS, ("stock", 0, 3, 6))
        self.assert_answer(before, ("stock", 0, 3, BILLION - 6), [BILLION])
        self.assert_refused(before, ("stock", 0, 3, BILLION - 5), -3)
        self.assert_answer(before, ("stock", 0, 2, BILLION), [BILLION])

    def test_first_refusal_counts(self):
        before = (CLASS, ("stock", 0, 3, BILLION))
        self.assert_refused(before, ("stock", 1, 5, -1), -2)
        self.assert_refused(before, ("stock", 0, 3, BILLION + 1), -1)
        self.assert_refused(before, ("stock", 0, 3, 1), -3)
        self.assert_answer(before, ("stock", 0, 3, 0), [BILLION])
