"""What is told behind points: all through the answers alone."""

from tests.helper import BILLION, CallCase, ask_behind, twenty

ALL = 1000000
HALF = 500000
TENTH = 100000
ONE = ("point", [1, 0, 0, 0])


class Told(CallCase):
    def assert_asked(self, before, wanted):
        """wanted: pairs of a call that only tells something and its answer, all behind the same calls."""
        self.assertEqual(ask_behind(before, *[call for call, answer in wanted]), [answer for call, answer in wanted])

    def assert_paid(self, before, paid):
        places = range(len(paid))
        given = ask_behind(before, *[("requestat", place) for place in places], ("requestat", len(paid)))
        self.assertEqual([given[place][5] for place in places], paid)
        self.assertEqual(given[-1], [-6])
        for told in given[:-1]:
            self.assertEqual(told[7], told[4] - told[5] - told[6])


class TheDocumentsExample(Told):
    BEGUN = (("class", 0, TENTH, 0), ("create", 0, 0, 60), ("create", 0, 1, 40), ("request", 0, 0, 60, 0),
             ("request", 0, 1, 40, 0))

    def test_before(self):
        self.assert_asked(self.BEGUN, (
            (("holding", 0, 0), [60, 60]), (("holding", 0, 1), [40, 40]),
            (("requestat", 0), [0, 0, 0, 0, 60, 0, 0, 60]), (("requestat", 1), [0, 1, 0, 0, 40, 0, 0, 40]),
            (("waits", 0), [100] + twenty({0: 60, 1: 40})), (("money", 0), [0, 0]), (("money", 1), [0, 0]),
            (("classinfo", 0), [100, 100, 0, TENTH, 0, 0]), (("counts",), [0, ALL, 2, 0])))

    def test_the_first_point(self):
        before = self.BEGUN + (("point", [7, 0, 0, 0]),)
        self.assert_answer(self.BEGUN, ("point", [7, 0, 0, 0]), [0, 10, 10] + [0] * 6)
        self.assert_asked(before, (
            (("holding", 0, 0), [54, 54]), (("holding", 0, 1), [36, 36]),
            (("requestat", 0), [0, 0, 0, 0, 60, 6, 0, 54]), (("requestat", 1), [0, 1, 0, 0, 40, 4, 0, 36]),
            (("waits", 0), [90] + twenty({0: 54, 1: 36})), (("money", 0), [42, 0]), (("money", 1), [28, 0]),
            (("things", 0), [0] * 5), (("classinfo", 0), [90, 100, 10, TENTH, 0, 0]), (("counts",), [1, ALL, 2, 0])))

    def test_the_second_point(self):
        before = self.BEGUN + (("point", [7, 0, 0, 0]), ("point", [8, 0, 0, 0]))
        self.assert_answer(before[:-1], before[-1], [1, 9, 9] + [0] * 6)
        self.assert_asked(before, (
            (("holding", 0, 0), [48, 48]), (("holding", 0, 1), [33, 33]),
            (("requestat", 0), [0, 0, 0, 0, 60, 12, 0, 48]), (("requestat", 1), [0, 1, 0, 0, 40, 7, 0, 33]),
            (("waits", 0), [81] + twenty({0: 48, 1: 33})), (("money", 0), [42 + 48, 0]), (("money", 1), [28 + 24, 0]),
            (("classinfo", 0), [81, 100, 19, TENTH, 0, 0]), (("counts",), [2, ALL, 2, 0])))


class OwnCap(Told):
    """A point's part 1."""

    def one(self, limit, units, asked, more=()):
        before = (("class", 0, limit, 0), ("create", 0, 0, units), ("request", 0, 0, asked, 0)) + more + (
            ("point", [3, 0, 0, 0]),)
        told, money = ask_behind(before, ("classinfo", 0), ("money", 0))
        self.assertEqual(told[0] + told[2], units)
        self.assertEqual(money, [3 * told[2], 0])
        return told[2]

    def test_rounded_down_but_at_least_1(self):
        self.assertEqual(self.one(TENTH, 119, 100), 11)
        self.assertEqual(self.one(TENTH, 9, 9), 1)
        self.assertEqual(self.one(1, 999999, 9), 1)
        self.assertEqual(self.one(999999, BILLION, BILLION), 999999000)

    def test_no_more_than_is_waited_for(self):
        self.assertEqual(self.one(HALF, 100, 49), 49)
        self.assertEqual(self.one(HALF, 100, 51), 50)
        self.assertEqual(self.one(ALL, 100, 51), 51)

    def test_nothing_of_a_suspended_class(self):
        self.assertEqual(self.one(ALL, 100, 51, (("suspend", 0, 1),)), 0)
        self.assertEqual(self.one(ALL, 100, 51, (("suspend", 0, 1), ("suspend", 0, 0))), 51)

    def test_units_taken_back_do_not_go(self):
        self.assertEqual(self.one(ALL, 100, 51, (("withdraw", 0, 20),)), 31)
        self.assertEqual(self.one(ALL, 100, 51, (("withdraw", 0, 51),)), 0)

    def test_a_suspended_class_waits_and_is_paid_later(self):
        before = (
            ("class", 0, HALF, 1), ("class", 1, HALF, 1), ("create", 0, 0, 10), ("create", 1, 0, 10),
            ("stock", 0, 0, 10), ("request", 0, 0, 4, 0), ("request", 0, 0, 3, 1), ("request", 1, 0, 10, 0),
            ("suspend", 0, 1), ("point", [2, 3, 0, 0]))
        self.assert_asked(before, (
            (("holding", 0, 0), [10, 7]), (("holding", 1, 0), [5, 5]), (("requestat", 0), [0, 0, 0, 0, 4, 0, 0, 4]),
            (("requestat", 1), [0, 0, 0, 1, 3, 0, 0, 3]), (("requestat", 2), [1, 0, 0, 0, 10, 5, 0, 5]),
            (("waits", 0), [7] + twenty({0: 7})), (("waits", 1), [5] + twenty({0: 5})), (("money", 0), [15, 0]),
            (("things", 0), [0] * 5), (("stockat", 0), [10, 0, 0, 0, 0]), (("classinfo", 0), [10, 10, 0, HALF, 1, 1]),
            (("classinfo", 1), [5, 10, 5, HALF, 1, 0])))
        before += (("suspend", 0, 0), ("suspend", 1, 1), ("point", [2, 3, 0, 0]))
        # 5 of class 0 go: 4 in money, 1 in kind, for which a tenth of the stock is got.
        self.assert_asked(before, (
            (("holding", 0, 0), [5, 2]), (("holding", 1, 0), [5, 5]), (("requestat", 0), [0, 0, 0, 0, 4, 4, 0, 0]),
            (("requestat", 1), [0, 0, 0, 1, 3, 1, 0, 2]), (("requestat", 2), [1, 0, 0, 0, 10, 5, 0, 5]),
            (("money", 0), [23, 0]), (("things", 0), [1, 0, 0, 0, 0]), (("stockat", 0), [9, 0, 0, 0, 0]),
            (("classinfo", 0), [5, 10, 5, HALF, 1, 0]), (("classinfo", 1), [5, 10, 5, HALF, 1, 1])))


class FundPot(Told):
    """A point's part 2."""

    def two(self, fund, prices, asked=(100, 100), more=()):
        """What is cancelled of two classes of 100 units each, all asked back by holders 0 and 1."""
        before = (
            ("class", 0, ALL, 0), ("class", 3, ALL, 0), ("create", 0, 0, 100), ("create", 3, 1, 100), ("fund", fund),
            ("request", 0, 0, asked[0], 0), ("request", 3, 1, asked[1], 0)) + more + (
            ("point", [prices[0], 0, 0, prices[1]]),)
        first, second, money, other = ask_behind(
            before, ("classinfo", 0), ("classinfo", 3), ("money", 0), ("money", 1))
        self.assertEqual((money, other), ([first[2] * prices[0], 0], [second[2] * prices[1], 0]))
        return [first[2], second[2]]

    def test_enough_and_one_short(self):
        # All is worth 200; 40 + 60 are wanted.
        self.assertEqual(self.two(HALF, [1, 1], (40, 60)), [40, 60])
        # 99: 39.6 and 59.4; 40 / 40 = 1 against 60 / 60 = 1: the first.
        self.assertEqual(self.two(499999, [1, 1], (40, 60)), [40, 59])

    def test_by_what_is_wanted_times_the_prices(self):
        # All is worth 400, the pot is 200. Wanted for 150 and 100: 120 and 80: 40 units and 80.
        self.assertEqual(self.two(HALF, [3, 1], (50, 100)), [40, 80])
        # Wanted for 150 and 11: 186.3 and 13.7 would be their parts, but 161 are enough.
        self.assertEqual(self.two(HALF, [3, 1], (50, 11)), [50, 11])
        # All is worth 1200, the pot is 120. Wanted for 700 and 500: 70 and 50: 10 units and 10.
        self.assertEqual(self.two(TENTH, [7, 5]), [10, 10])
        # The pot is 119: 69.4 and 49.6; 700 / 70 = 10 against 500 / 50 = 10: 70 and 49: 10 units and 9.
        self.assertEqual(self.two(99999, [7, 5]), [10, 9])

    def test_at_least_1_of_a_class_that_wants_something(self):
        self.assertEqual(self.two(1, [1, 1]), [1, 1])
        self.assertEqual(self.two(1, [100000, 100000]), [1, 1])
        self.assertEqual(self.two(1, [100000, 100000], (1, 1)), [1, 1])
        self.assertEqual(self.two(10, [100000, 1]), [1, 1])

    def test_nothing_of_a_class_that_wants_nothing(self):
        suspended = (("suspend", 3, 1),)
        self.assertEqual(self.two(TENTH, [1, 1], (100, 100), suspended), [20, 0])
        self.assertEqual(self.two(TENTH, [1, 1], (100, 100), (("withdraw", 0, 100),)), [0, 20])

    def test_the_own_cap_comes_first(self):
        # Class 0 wants 10 only: 10 and 100 share 100: 9.09 and 90.9; 10 / 10 = 1 against 100 / 91: 9 and 91.
        self.assertEqual(self.two(HALF, [1, 1], (100, 100), (("class", 0, TENTH, 0),)), [9, 91])


class Sharing(Told):
    """A point's part 3."""

    def two_points(self, way, *more):
        """Holder 0 asks 6 and holder 1 asks 4 at point 0, holder 0 asks 10 and holder 2 asks 20 at point 1."""
        return (
            ("class", 0, 1, way), ("create", 0, 0, 20), ("create", 0, 1, 10), ("create", 0, 2, 20),
            ("request", 0, 0, 6, 0), ("request", 0, 1, 4, 0), ("suspend", 0, 1), ONE, ("suspend", 0, 0),
            ("request", 0, 0, 10, 0), ("request", 0, 2, 20, 0)) + more

    def test_together(self):
        # 10 shared by 16, 4, 20; holder 0's 4 go to the older request.
        before = self.two_points(0, ("class", 0, 200000, 0), ONE)
        self.assert_paid(before, [4, 1, 0, 5])
        self.assert_asked(before, (
            (("waits", 0), [30] + twenty({0: 12, 1: 3, 2: 15})), (("holding", 0, 0), [16, 12]),
            (("holding", 0, 1), [9, 3]), (("holding", 0, 2), [15, 15]), (("money", 0), [4, 0]), (("money", 1), [1, 0]),
            (("money", 2), [5, 0]), (("classinfo", 0), [40, 50, 10, 200000, 0, 0])))
        # 30 shared by 16, 4, 20: 12, 3, 15.
        self.assert_paid(self.two_points(0, ("class", 0, 600000, 0), ONE), [6, 3, 6, 15])

    def test_by_age(self):
        self.assert_paid(self.two_points(1, ("class", 0, TENTH, 1), ONE), [3, 2, 0, 0])
        self.assert_paid(self.two_points(1, ("class", 0, 200000, 1), ONE), [6, 4, 0, 0])
        # 25: 10 to the oldest, 15 shared by 10 and 20.
        before = self.two_points(1, ("class", 0, HALF, 1), ONE)
        self.assert_paid(before, [6, 4, 5, 10])
        self.assert_asked(before, (
            (("waits", 0), [15] + twenty({0: 5, 2: 10})), (("holding", 0, 0), [9, 5]), (("holding", 0, 1), [6, 0]),
            (("money", 0), [11, 0]), (("money", 1), [4, 0]), (("money", 2), [10, 0]),
            (("classinfo", 0), [25, 50, 25, HALF, 1, 0])))

    def test_by_age_a_point_behind_another(self):
        # 5 of 50, then 4 of 45, then 4 of 41: 3 2 of the oldest; then of 3 and 2: 2.4 and 1.6; 3 / 3 = 2 / 2: 3 and 1;
        # then 1 is left of the oldest, and 3 shared by 10 and 20: 1 and 2.
        before = self.two_points(1, ("class", 0, TENTH, 1), ONE)
        self.assert_paid(before + (ONE,), [6, 3, 0, 0])
        self.assert_paid(before + (ONE, ONE), [6, 4, 1, 2])

    def test_units_taken_back_have_no_part(self):
        taken = (("withdraw", 0, 6), ("withdraw", 1, 3))
        # 5: 1 to the oldest that waits, 4 shared by 10 and 20: 1.3 and 2.7: 10 / 2 = 5 against 20 / 3.
        before = self.two_points(1, *taken, ("class", 0, TENTH, 1), ONE)
        self.assert_paid(before, [0, 1, 1, 3])
        self.assert_asked(before, (
            (("requestat", 0), [0, 0, 0, 0, 6, 0, 6, 0]), (("requestat", 1), [0, 1, 0, 0, 4, 1, 3, 0]),
            (("requestat", 2), [0, 0, 1, 0, 10, 1, 0, 9]), (("requestat", 3), [0, 2, 1, 0, 20, 3, 0, 17]),
            (("holding", 0, 0), [19, 9]), (("holding", 0, 1), [9, 0])))
        # 10 shared by 10, 1, 20: 3.2, 0.3, 6.5: 10 / 4 = 2.5, 1 / 1, 20 / 7 = 2.86: 3, 0, 7.
        self.assert_paid(self.two_points(0, *taken, ("class", 0, 200000, 0), ONE), [0, 0, 3, 7])

    def test_a_holder_shares_by_all_requests_together(self):
        before = (
            ("class", 0, TENTH, 0), ("create", 0, 0, 15), ("create", 0, 1, 15), ("request", 0, 0, 5, 0),
            ("request", 0, 1, 15, 0), ("request", 0, 0, 5, 1), ("request", 0, 0, 5, 0))
        for way in (0, 1):
            self.assert_paid(before + (("class", 0, TENTH, way), ONE), [2, 1, 0, 0])

    def test_holders_go_by_their_numbers_and_requests_by_their_places(self):
        before = (
            ("class", 0, TENTH, 0), ("create", 0, 7, 5), ("create", 0, 3, 5), ("request", 0, 7, 5, 0),
            ("request", 0, 3, 2, 0), ("request", 0, 3, 3, 0), ONE)
        self.assert_paid(before, [0, 1, 0])
        self.assert_asked(before, ((("waits", 0), [9] + twenty({3: 4, 7: 5})),))


class Payment(Told):
    """A point's part 4."""

    def test_money_and_kind_in_one_sharing(self):
        before = (
            ("class", 2, HALF, 0), ("create", 2, 0, 40), ("create", 2, 9, 60), ("stock", 2, 0, 1000),
            ("stock", 2, 1, 99), ("stock", 2, 4, 3), ("request", 2, 0, 40, 1), ("request", 2, 9, 10, 1),
            ("request", 2, 9, 50, 0), ("point", [0, 0, 9, 0]))
        # 50 shared by 40 and 60: 20 in kind; 10 in kind and 20 in money.
        self.assert_paid(before, [20, 10, 20])
        self.assert_asked(before, (
            (("money", 0), [0, 0]), (("money", 9), [180, 0]), (("things", 0), [200, 19, 0, 0, 0]),
            (("things", 9), [100, 9, 0, 0, 0]), (("stockat", 2), [700, 71, 0, 0, 3]),
            (("classinfo", 2), [50, 100, 50, HALF, 0, 0]), (("holding", 2, 0), [20, 20]),
            (("holding", 2, 9), [30, 30])))
        before += (("point", [0, 0, 10, 0]),)
        # 25 shared by 20 and 30: 10 in kind of 50 in issue, 15 in money.
        self.assert_paid(before, [30, 10, 35])
        self.assert_asked(before, (
            (("money", 9), [330, 0]), (("things", 0), [340, 33, 0, 0, 0]), (("things", 9), [100, 9, 0, 0, 0]),
            (("stockat", 2), [560, 57, 0, 0, 3]), (("classinfo", 2), [25, 100, 75, HALF, 0, 0])))

    def test_stock_and_units_of_the_points_beginning(self):
        for way in (0, 1):
            before = (
                ("class", 0, ALL, way), ("create", 0, 0, 4), ("create", 0, 1, 4), ("create", 0, 2, 2),
                ("stock", 0, 2, 100), ("request", 0, 2, 2, 0), ("suspend", 0, 1), ONE, ("request", 0, 0, 4, 1), ONE,
                ("suspend", 0, 0), ("request", 0, 1, 4, 1), ONE)
            self.assert_asked(before, (
                (("things", 0), [0, 0, 40, 0, 0]), (("things", 1), [0, 0, 40, 0, 0]), (("things", 2), [0] * 5),
                (("stockat", 0), [0, 0, 20, 0, 0]), (("money", 2), [2, 0]), (("classinfo", 0), [0, 10, 10, ALL, way, 0])))

    def test_rounded_down_for_each_request_by_itself(self):
        before = (
            ("class", 0, ALL, 0), ("create", 0, 0, 4), ("stock", 0, 0, 6), ("stock", 0, 1, 3),
            ("request", 0, 0, 1, 1), ("request", 0, 0, 1, 1), ("request", 0, 0, 1, 1), ONE)
        self.assert_asked(before, ((("things", 0), [3, 0, 0, 0, 0]), (("stockat", 0), [3, 3, 0, 0, 0])))

    def test_one_classes_stock_alone(self):
        before = (
            ("class", 0, ALL, 0), ("class", 1, ALL, 0), ("create", 0, 0, 2), ("create", 1, 0, 2), ("stock", 0, 0, 10),
            ("stock", 1, 0, 100), ("request", 1, 0, 1, 1), ("point", [1, 1, 0, 0]))
        self.assert_asked(before, (
            (("things", 0), [50, 0, 0, 0, 0]), (("stockat", 0), [10, 0, 0, 0, 0]), (("stockat", 1), [50, 0, 0, 0, 0]),
            (("classinfo", 0), [2, 2, 0, ALL, 0, 0]), (("classinfo", 1), [1, 2, 1, ALL, 0, 0])))

    def test_greatest_numbers(self):
        before = (
            ("class", 0, ALL, 0), ("create", 0, 0, BILLION - 1), ("create", 0, 1, 1), ("stock", 0, 4, BILLION),
            ("request", 0, 0, BILLION - 1, 1), ("request", 0, 1, 1, 0), ("point", [100000, 0, 0, 0]))
        self.assert_asked(before, (
            (("things", 0), [0, 0, 0, 0, BILLION - 1]), (("stockat", 0), [0, 0, 0, 0, 1]), (("money", 1), [100000, 0]),
            (("money", 0), [0, 0]), (("classinfo", 0), [0, BILLION, BILLION, ALL, 0, 0])))
