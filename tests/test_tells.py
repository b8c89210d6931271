"""The calls holding, requestat, waits, classinfo, stockat, pocketat and counts."""

from tests.helper import BILLION, FAR, CallCase, ask, ask_behind, twenty

ALL = 1000000
NO_CLASSES = (1, 3, 4, -1, -4, FAR, -FAR)
OFF = (-1, 20, -20, FAR, -FAR)
CLASS = ("class", 0, ALL, 0)
TEN = (CLASS, ("create", 0, 0, 10))


class Holding(CallCase):
    def test_of_nothing(self):
        for h in (0, 19):
            self.assert_told((CLASS,), ("holding", 0, h), [0, 0])

    def test_units_of_each_holder_and_class(self):
        before = (CLASS, ("class", 3, 5, 1), ("create", 0, 0, 7), ("create", 3, 0, 8), ("create", 3, 19, 9),
                  ("create", 3, 19, 2))
        self.assert_told(before, ("holding", 0, 0), [7, 0])
        self.assert_told(before, ("holding", 3, 0), [8, 0])
        self.assert_told(before, ("holding", 3, 19), [11, 0])
        self.assert_told(before, ("holding", 0, 19), [0, 0])

    def test_behind_a_transfer(self):
        before = TEN + (("transfer", 0, 0, 19, 4),)
        self.assertEqual(ask_behind(before, ("holding", 0, 0), ("holding", 0, 19)), [[6, 0], [4, 0]])

    def test_locked_is_what_all_the_holders_requests_of_the_class_wait_for(self):
        before = TEN + (
            ("class", 1, 5, 0), ("create", 1, 0, 10), ("create", 0, 5, 10), ("request", 0, 0, 2, 0),
            ("request", 1, 0, 9, 0), ("request", 0, 5, 8, 1), ("request", 0, 0, 3, 1))
        self.assert_told(before, ("holding", 0, 0), [10, 5])
        self.assert_told(before, ("holding", 1, 0), [10, 9])
        self.assert_told(before, ("holding", 0, 5), [10, 8])
        self.assert_told(before, ("holding", 1, 5), [0, 0])

    def test_what_is_taken_back_is_not_locked(self):
        before = TEN + (("request", 0, 0, 6, 0), ("withdraw", 0, 2))
        self.assert_told(before, ("holding", 0, 0), [10, 4])

    def test_what_is_paid_is_neither_held_nor_locked(self):
        before = (("class", 0, 300000, 0), ("create", 0, 0, 10), ("request", 0, 0, 6, 0), ("point", [1, 0, 0, 0]))
        self.assert_told(before, ("holding", 0, 0), [7, 3])

    def test_of_a_suspended_class(self):
        before = TEN + (("request", 0, 0, 6, 0), ("suspend", 0, 1), ("point", [1, 0, 0, 0]))
        self.assert_told(before, ("holding", 0, 0), [10, 6])

    def test_edges(self):
        for c in (0, 3):
            for h in (0, 19):
                before = (("class", c, ALL, 0), ("create", c, h, BILLION), ("request", c, h, BILLION, 0))
                self.assert_told(before, ("holding", c, h), [BILLION, BILLION])

    def test_no_class(self):
        self.assert_refused((), ("holding", 0, 0), -2)
        for c in NO_CLASSES:
            self.assert_refused(TEN, ("holding", c, 0), -2)

    def test_out_of_range(self):
        for h in OFF:
            self.assert_refused(TEN, ("holding", 0, h), -1)

    def test_first_refusal_counts(self):
        for c in NO_CLASSES:
            for h in OFF:
                self.assert_refused(TEN, ("holding", c, h), -2)


class RequestAt(CallCase):
    def test_a_new_one(self):
        before = (
            CLASS, ("class", 2, 5, 0), ("create", 0, 3, 10), ("create", 2, 19, 20), ("request", 0, 3, 4, 0),
            ("point", [1, 0, 1, 0]), ("point", [1, 0, 1, 0]), ("request", 2, 19, 7, 1))
        # The first was paid at point 0, the second is of point 2.
        self.assert_told(before, ("requestat", 0), [0, 3, 0, 0, 4, 4, 0, 0])
        self.assert_told(before, ("requestat", 1), [2, 19, 2, 1, 7, 0, 0, 7])

    def test_paid_and_taken_back(self):
        before = (("class", 0, 300000, 1), ("create", 0, 0, 10), ("request", 0, 0, 9, 0), ("withdraw", 0, 2))
        self.assert_told(before, ("requestat", 0), [0, 0, 0, 0, 9, 0, 2, 7])
        before += (("point", [1, 0, 0, 0]),)
        self.assert_told(before, ("requestat", 0), [0, 0, 0, 0, 9, 3, 2, 4])
        before += (("withdraw", 0, 1), ("point", [1, 0, 0, 0]))
        # 7 in issue: 2.1 might go.
        self.assert_told(before, ("requestat", 0), [0, 0, 0, 0, 9, 5, 3, 1])
        before += (("withdraw", 0, 1), ("point", [1, 0, 0, 0]))
        self.assert_told(before, ("requestat", 0), [0, 0, 0, 0, 9, 5, 4, 0])

    def test_its_point_stays_when_points_are_done(self):
        before = TEN + (
            ("suspend", 0, 1), ("point", [1, 0, 0, 0]), ("request", 0, 0, 2, 0), ("point", [1, 0, 0, 0]),
            ("point", [1, 0, 0, 0]), ("request", 0, 0, 3, 1))
        self.assert_told(before, ("requestat", 0), [0, 0, 1, 0, 2, 0, 0, 2])
        self.assert_told(before, ("requestat", 1), [0, 0, 3, 1, 3, 0, 0, 3])

    def test_never_taken_away(self):
        before = TEN + (("request", 0, 0, 2, 0), ("request", 0, 0, 5, 1), ("withdraw", 0, 2), ("point", [1, 0, 0, 0]))
        self.assert_told(before, ("requestat", 0), [0, 0, 0, 0, 2, 0, 2, 0])
        self.assert_told(before, ("requestat", 1), [0, 0, 0, 1, 5, 5, 0, 0])

    def test_a_refused_request_is_none(self):
        self.assert_refused(TEN + (("request", 0, 0, 11, 0),), ("requestat", 0), -6)

    def test_edges(self):
        before = (CLASS, ("create", 0, 0, BILLION)) + (("request", 0, 0, 1, 0),) * 199 + (("request", 0, 0, 5, 1),)
        self.assert_told(before, ("requestat", 0), [0, 0, 0, 0, 1, 0, 0, 1])
        self.assert_told(before, ("requestat", 199), [0, 0, 0, 1, 5, 0, 0, 5])
        self.assert_refused(before, ("requestat", 200), -6)
        before = (("class", 3, ALL, 0), ("create", 3, 19, BILLION), ("request", 3, 19, BILLION, 0))
        self.assert_told(before, ("requestat", 0), [3, 19, 0, 0, BILLION, 0, 0, BILLION])

    def test_no_such_request(self):
        for place in (0, -1, 1, FAR, -FAR):
            self.assert_refused(TEN, ("requestat", place), -6)
        before = TEN + (("request", 0, 0, 1, 0), ("request", 0, 0, 1, 0))
        for place in (2, -1, -2, FAR, -FAR):
            self.assert_refused(before, ("requestat", place), -6)


class Waits(CallCase):
    def test_nothing(self):
        self.assert_told((CLASS,), ("waits", 0), [0] * 21)
        self.assert_told(TEN, ("waits", 0), [0] * 21)

    def test_each_holder_of_one_class(self):
        before = TEN + (
            ("class", 1, 5, 1), ("create", 1, 0, 10), ("create", 0, 19, 10), ("request", 0, 0, 2, 0),
            ("request", 1, 0, 9, 0), ("request", 0, 19, 8, 1), ("request", 0, 0, 3, 1))
        self.assert_told(before, ("waits", 0), [13] + twenty({0: 5, 19: 8}))
        self.assert_told(before, ("waits", 1), [9] + twenty({0: 9}))

    def test_what_is_taken_back_or_paid_is_not_waited_for(self):
        before = (
            ("class", 0, 100000, 0), ("create", 0, 0, 60), ("create", 0, 1, 40), ("request", 0, 0, 60, 0),
            ("request", 0, 1, 40, 0), ("withdraw", 1, 30))
        self.assert_told(before, ("waits", 0), [70] + twenty({0: 60, 1: 10}))
        # 10 shared by 60 and 10: 8.57 and 1.43; 60 / 9 against 10 / 2: 9 and 1.
        self.assert_told(before + (("point", [1, 0, 0, 0]),), ("waits", 0), [60] + twenty({0: 51, 1: 9}))

    def test_of_a_suspended_class(self):
        before = TEN + (("request", 0, 0, 2, 0), ("suspend", 0, 1), ("point", [1, 0, 0, 0]))
        self.assert_told(before, ("waits", 0), [2] + twenty({0: 2}))

    def test_edges(self):
        for c in (0, 3):
            before = (("class", c, ALL, 0), ("create", c, 19, BILLION), ("request", c, 19, BILLION, 1))
            self.assert_told(before, ("waits", c), [BILLION] + twenty({19: BILLION}))

    def test_all_twenty(self):
        before = (CLASS,) + tuple(("create", 0, h, 100) for h in range(20)) + tuple(
            ("request", 0, h, h + 1, h % 2) for h in reversed(range(20)))
        self.assert_told(before, ("waits", 0), [210] + list(range(1, 21)))

    def test_no_class(self):
        self.assert_refused((), ("waits", 0), -2)
        for c in NO_CLASSES:
            self.assert_refused(TEN, ("waits", c), -2)


class ClassInfo(CallCase):
    def test_a_new_one(self):
        self.assert_told((("class", 2, 9, 1),), ("classinfo", 2), [0, 0, 0, 9, 1, 0])

    def test_limit_and_way_are_those_of_now(self):
        before = (("class", 0, 1, 0), ("create", 0, 5, 3), ("suspend", 0, 1))
        self.assert_told(before, ("classinfo", 0), [3, 3, 0, 1, 0, 1])
        self.assert_told(before + (("class", 0, ALL, 1),), ("classinfo", 0), [3, 3, 0, ALL, 1, 1])
        self.assert_told(before + (("class", 0, ALL, 2),), ("classinfo", 0), [3, 3, 0, 1, 0, 1])

    def test_suspended_or_not(self):
        before = (CLASS, ("class", 1, 5, 1), ("suspend", 1, 1))
        self.assert_told(before, ("classinfo", 0), [0, 0, 0, ALL, 0, 0])
        self.assert_told(before, ("classinfo", 1), [0, 0, 0, 5, 1, 1])
        self.assert_told(before + (("suspend", 1, 0),), ("classinfo", 1), [0, 0, 0, 5, 1, 0])

    def test_in_issue_created_and_cancelled(self):
        before = (
            ("class", 0, 500000, 0), ("create", 0, 0, 60), ("create", 0, 1, 40), ("transfer", 0, 0, 2, 7),
            ("request", 0, 0, 50, 0), ("request", 0, 1, 10, 1))
        self.assert_told(before, ("classinfo", 0), [100, 100, 0, 500000, 0, 0])
        before += (("point", [1, 0, 0, 0]),)
        self.assert_told(before, ("classinfo", 0), [50, 100, 50, 500000, 0, 0])
        before += (("create", 0, 19, 5), ("point", [1, 0, 0, 0]))
        # 10 were still waited for.
        self.assert_told(before, ("classinfo", 0), [45, 105, 60, 500000, 0, 0])

    def test_created_in_all_may_be_more_than_may_be_in_issue(self):
        turn = (("create", 0, 0, BILLION), ("request", 0, 0, BILLION, 0), ("point", [1, 0, 0, 0]))
        self.assert_told((CLASS,) + turn * 3, ("classinfo", 0), [0, 3 * BILLION, 3 * BILLION, ALL, 0, 0])

    def test_edges(self):
        for c in (0, 3):
            self.assert_told((("class", c, 1, 0), ("create", c, 0, 1)), ("classinfo", c), [1, 1, 0, 1, 0, 0])
            self.assert_told(
                (("class", c, ALL, 1), ("create", c, 0, BILLION)), ("classinfo", c), [BILLION, BILLION, 0, ALL, 1, 0])

    def test_no_class(self):
        self.assert_refused((), ("classinfo", 0), -2)
        for c in NO_CLASSES:
            self.assert_refused(TEN, ("classinfo", c), -2)


class StockAt(CallCase):
    def test_at_first(self):
        self.assert_told((CLASS,), ("stockat", 0), [0] * 5)

    def test_of_each_class(self):
        before = (
            CLASS, ("class", 3, 5, 0), ("stock", 0, 0, 7), ("stock", 0, 4, 8), ("stock", 0, 4, 1), ("stock", 3, 2, 5),
            ("stock", 0, 1, BILLION), ("stock", 0, 1, 1))
        self.assert_told(before, ("stockat", 0), [7, BILLION, 0, 0, 9])
        self.assert_told(before, ("stockat", 3), [0, 0, 5, 0, 0])

    def test_less_what_is_got(self):
        before = TEN + (("stock", 0, 0, 19), ("stock", 0, 3, 4), ("request", 0, 0, 5, 1), ("point", [1, 0, 0, 0]))
        self.assert_told(before, ("stockat", 0), [10, 0, 0, 2, 0])
        self.assert_told(before, ("things", 0), [9, 0, 0, 2, 0])

    def test_all_five(self):
        self.assertEqual(
            ask(("class", 3, 5, 0), *[("stock", 3, thing, thing + 1) for thing in range(5)], ("stockat", 3))[-1],
            [1, 2, 3, 4, 5])

    def test_no_class(self):
        self.assert_refused((), ("stockat", 0), -2)
        for c in NO_CLASSES:
            self.assert_refused(TEN, ("stockat", c), -2)


class PocketAt(CallCase):
    HELD = (CLASS, ("class", 3, 5, 0), ("create", 0, 0, 10), ("create", 0, 1, 10), ("create", 0, 2, 5),
            ("create", 3, 19, 8))
    POCKETS = HELD + (("pocket", 0), ("pocket", 3))

    def test_a_new_one(self):
        self.assert_told(self.POCKETS, ("pocketat", 0, 0), [0, 10, 25, 0, 0])
        self.assert_told(self.POCKETS, ("pocketat", 0, 2), [0, 5, 25, 0, 0])
        self.assert_told(self.POCKETS, ("pocketat", 0, 19), [0, 0, 25, 0, 0])
        self.assert_told(self.POCKETS, ("pocketat", 1, 19), [3, 8, 8, 0, 0])
        self.assert_told(self.POCKETS, ("pocketat", 1, 0), [3, 0, 8, 0, 0])

    def test_units_stay_those_of_the_day_when_it_was_made(self):
        before = self.POCKETS + (
            ("transfer", 0, 0, 5, 4), ("create", 0, 2, 99), ("request", 0, 1, 10, 0), ("point", [1, 0, 0, 1]),
            ("pocket", 0), ("release", 0, 5))
        given = ask_behind(before, *[("pocketat", 0, h) for h in range(20)])
        self.assertEqual(given, [[0, 10, 25, 5, 2], [0, 10, 25, 5, 2], [0, 5, 25, 5, 1]] + [[0, 0, 25, 5, 0]] * 17)
        given = ask_behind(before, *[("pocketat", 2, h) for h in range(20)])
        self.assertEqual(
            given, [[0, 6, 114, 0, 0], [0, 0, 114, 0, 0], [0, 104, 114, 0, 0]] + [[0, 0, 114, 0, 0]] * 2
            + [[0, 4, 114, 0, 0]] + [[0, 0, 114, 0, 0]] * 14)

    def test_locked_units_are_the_holders(self):
        before = self.HELD + (("request", 0, 0, 9, 0), ("pocket", 0))
        self.assert_told(before, ("pocketat", 0, 0), [0, 10, 25, 0, 0])

    def test_what_the_holder_had_behind_several_releases(self):
        # All that's given is divided: 1: 1 0 0; 2: 1 1 0; 3: 2 1 0; 4: 2 2 0; 5: 2 2 1; 12: 5 5 2.
        before = self.POCKETS
        given = 0
        for money, had in ((1, (1, 0, 0)), (1, (1, 1, 0)), (1, (2, 1, 0)), (1, (2, 2, 0)), (1, (2, 2, 1)),
                           (7, (5, 5, 2))):
            before += (("release", 0, money),)
            given += money
            for h, units in ((0, 10), (1, 10), (2, 5)):
                self.assert_told(before, ("pocketat", 0, h), [0, units, 25, given, had[h]])
                self.assert_told(before, ("money", h), [had[h], 0])
        self.assert_told(before, ("pocketat", 1, 19), [3, 8, 8, 0, 0])

    def test_what_the_holder_had_is_what_the_releases_told(self):
        before = (CLASS,) + tuple(("create", 0, h, h * h % 17 + h) for h in range(1, 20)) + (("pocket", 0),)
        amounts = [1, 2, 3, 1, 50, 7, 1, 1, 1000, 13, BILLION, 1]
        given = ask_behind(
            before, *[("release", 0, money) for money in amounts], *[("pocketat", 0, h) for h in range(20)])
        releases, told = given[:len(amounts)], given[len(amounts):]
        self.assertEqual([each[4] for each in told], [sum(parts) for parts in list(zip(*releases))[1:]])
        self.assertEqual({each[3] for each in told}, {sum(amounts)})
        self.assertEqual(sum(each[1] for each in told), told[0][2])

    def test_a_payout_leaves_it(self):
        before = self.POCKETS + (("release", 0, 5), ("payout", 0))
        self.assert_told(before, ("pocketat", 0, 0), [0, 10, 25, 5, 2])

    def test_a_refused_release_leaves_it(self):
        before = self.POCKETS + (("release", 0, 5), ("release", 0, 0), ("release", 2, 5))
        self.assert_told(before, ("pocketat", 0, 0), [0, 10, 25, 5, 2])

    def test_edges(self):
        before = (("class", 3, 5, 0), ("create", 3, 0, BILLION)) + (("pocket", 3),) * 20 + (("release", 19, BILLION),)
        self.assert_told(before, ("pocketat", 0, 0), [3, BILLION, BILLION, 0, 0])
        self.assert_told(before, ("pocketat", 19, 0), [3, BILLION, BILLION, BILLION, BILLION])
        self.assert_told(before, ("pocketat", 19, 19), [3, 0, BILLION, BILLION, 0])
        self.assert_refused(before, ("pocketat", 20, 0), -6)

    def test_no_such_pocket(self):
        self.assert_refused((), ("pocketat", 0, 0), -6)
        self.assert_refused(self.HELD, ("pocketat", 0, 0), -6)
        for place in (2, -1, -2, FAR, -FAR):
            self.assert_refused(self.POCKETS, ("pocketat", place, 0), -6)

    def test_out_of_range(self):
        for h in OFF:
            self.assert_refused(self.POCKETS, ("pocketat", 0, h), -1)

    def test_first_refusal_counts(self):
        for place in (2, -1, FAR):
            for h in OFF:
                self.assert_refused(self.POCKETS, ("pocketat", place, h), -6)


class Counts(CallCase):
    def test_at_first(self):
        self.assert_told((), ("counts",), [0, ALL, 0, 0])

    def test_counts_up(self):
        before = TEN + (
            ("fund", 7), ("request", 0, 0, 1, 0), ("request", 0, 0, 2, 1), ("request", 0, 0, 3, 1), ("pocket", 0),
            ("point", [1, 0, 0, 0]), ("pocket", 0))
        self.assert_told(before, ("counts",), [1, 7, 3, 2])
        self.assert_told(before + (("point", [1, 0, 0, 0]), ("withdraw", 0, 1)), ("counts",), [2, 7, 3, 2])

    def test_refused_ones_do_not_count(self):
        before = TEN + (
            ("fund", 0), ("request", 0, 0, 11, 0), ("pocket", 1), ("point", [0, 0, 0, 0]), ("point", [1, 0, 0]))
        self.assert_told(before, ("counts",), [0, ALL, 0, 0])

    def test_as_many_as_may_be(self):
        before = (CLASS, ("create", 0, 0, 500)) + (("request", 0, 0, 1, 0),) * 201 + (("pocket", 0),) * 21
        self.assert_told(before, ("counts",), [0, ALL, 200, 20])
        self.assert_told((("point", [0, 0, 0, 0]),) * 398, ("counts",), [398, ALL, 0, 0])

    def test_fund_edges(self):
        self.assert_told((("fund", 1),), ("counts",), [0, 1, 0, 0])
        self.assert_told((("fund", 1), ("fund", ALL)), ("counts",), [0, ALL, 0, 0])
