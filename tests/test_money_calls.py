"""The calls payout, money and things."""

from tests.helper import BILLION, FAR, CallCase, ask, ask_behind, ask_house, house_after, plain

ALL = 1000000
# Holder 2 is owed 5 x 7 by a point; of the pocket 4 are holder 0's, 4 holder 1's, 2 holder 2's.
POINT = (
    ("class", 0, ALL, 0), ("create", 0, 0, 10), ("create", 0, 1, 10), ("create", 0, 2, 5), ("pocket", 0),
    ("request", 0, 2, 5, 0), ("point", [7, 0, 0, 0]))
BOTH = POINT + (("release", 0, 10),)
# Holder 19 gets half of each thing.
THINGS = (
    ("class", 1, ALL, 0), ("create", 1, 19, 6), ("create", 1, 0, 6), ("stock", 1, 0, 100), ("stock", 1, 1, 31),
    ("stock", 1, 3, 1), ("stock", 1, 4, BILLION), ("request", 1, 19, 6, 1), ("point", [0, 3, 0, 0]))


class Payout(CallCase):
    def test_of_nothing(self):
        for h in (0, 7, 19):
            self.assertEqual(ask(("payout", h), ("money", h)), [[0], [0, 0]])

    def test_what_was_owed_is_out_then(self):
        self.assertEqual(
            ask_behind(POINT, ("money", 2), ("payout", 2), ("money", 2)), [[35, 0], [35], [0, 35]])

    def test_a_second_one_answers_0(self):
        self.assertEqual(
            ask_behind(POINT, ("payout", 2), ("payout", 2), ("money", 2)), [[35], [0], [0, 35]])

    def test_money_of_a_point_and_of_a_release_together(self):
        self.assertEqual(
            ask_behind(BOTH, ("payout", 2), ("payout", 0), ("payout", 2), ("money", 2), ("money", 0), ("money", 1)),
            [[37], [4], [0], [0, 37], [0, 4], [4, 0]])

    def test_money_of_two_classes_together(self):
        self.assertEqual(
            ask(("class", 0, ALL, 0), ("class", 3, ALL, 1), ("create", 0, 4, 5), ("create", 3, 4, 6),
                ("request", 0, 4, 5, 0), ("request", 3, 4, 6, 0), ("point", [10, 0, 0, 100]), ("payout", 4))[-1],
            [650])

    def test_what_comes_later_is_owed_anew_and_what_is_out_adds_up(self):
        self.assertEqual(
            ask_behind(BOTH, ("payout", 2), ("release", 0, 10), ("money", 2), ("payout", 2), ("money", 2),
                       ("create", 0, 2, 1), ("request", 0, 2, 1, 0), ("point", [9, 0, 0, 0]), ("money", 2),
                       ("payout", 2), ("money", 2)),
            [[37], [20] + [4, 4, 2] + [0] * 17, [2, 37], [2], [0, 39], [1], [1],
             [1, 1, 1, 0, 0, 0, 0, 0, 0], [9, 39], [9], [0, 48]])

    def test_nothing_else_changes(self):
        house = house_after(*BOTH)
        wanted = plain(house)
        wanted["holders"][2]["owed"] = 0
        wanted["holders"][2]["out"] = 37
        ask_house(house, ("payout", 2))
        self.assertEqual(plain(house), wanted)

    def test_what_is_in_kind_is_not_paid_out(self):
        self.assertEqual(
            ask_behind(THINGS, ("payout", 19), ("money", 19), ("things", 19)),
            [[0], [0, 0], [50, 15, 0, 0, BILLION // 2]])

    def test_what_is_out_of_a_pocket_stays_given(self):
        self.assertEqual(
            ask_behind(BOTH, ("payout", 2), ("pocketat", 0, 2)), [[37], [0, 5, 25, 10, 2]])

    def test_great_sums(self):
        before = (("class", 0, ALL, 0), ("create", 0, 0, BILLION), ("request", 0, 0, BILLION, 0),
                  ("point", [100000, 0, 0, 0]))
        self.assertEqual(
            ask_behind(before, *before[1:3], ("point", [100000, 0, 0, 0]), ("payout", 0), ("money", 0))[-2:],
            [[2 * 10 ** 14], [0, 2 * 10 ** 14]])

    def test_edges(self):
        before = (("class", 0, ALL, 0), ("create", 0, 0, 3), ("create", 0, 19, 2), ("pocket", 0), ("release", 0, 5))
        self.assert_answer(before, ("payout", 0), [3])
        self.assert_answer(before, ("payout", 19), [2])

    def test_out_of_range(self):
        for before in ((), BOTH):
            for h in (-1, 20, -20, FAR, -FAR):
                self.assert_refused(before, ("payout", h), -1)


class Money(CallCase):
    def test_at_first(self):
        for h in range(20):
            self.assert_told((), ("money", h), [0, 0])

    def test_owed_then_out(self):
        self.assert_told(POINT, ("money", 2), [35, 0])
        self.assert_told(BOTH, ("money", 2), [37, 0])
        self.assert_told(BOTH + (("payout", 2), ("release", 0, 5)), ("money", 2), [1, 37])

    def test_each_holder_by_itself(self):
        given = ask_behind(BOTH + (("payout", 1),), *[("money", h) for h in range(20)])
        self.assertEqual(given, [[4, 0], [0, 4], [37, 0]] + [[0, 0]] * 17)

    def test_edges(self):
        before = (("class", 0, ALL, 0), ("create", 0, 0, 3), ("create", 0, 19, 2), ("pocket", 0), ("release", 0, 5))
        self.assert_told(before, ("money", 0), [3, 0])
        self.assert_told(before, ("money", 19), [2, 0])

    def test_out_of_range(self):
        for before in ((), BOTH):
            for h in (-1, 20, -20, FAR, -FAR):
                self.assert_refused(before, ("money", h), -1)


class Things(CallCase):
    def test_at_first(self):
        for h in range(20):
            self.assert_told((), ("things", h), [0] * 5)

    def test_what_is_got_in_kind(self):
        self.assert_told(THINGS, ("things", 19), [50, 15, 0, 0, BILLION // 2])
        self.assert_told(THINGS, ("things", 0), [0] * 5)

    def test_of_several_points_and_classes_together(self):
        more = (
            ("class", 0, ALL, 0), ("create", 0, 19, 2), ("stock", 0, 2, 9), ("stock", 0, 0, 1),
            ("request", 0, 19, 2, 1), ("point", [1, 1, 0, 0]))
        self.assert_told(THINGS + more, ("things", 19), [51, 15, 9, 0, BILLION // 2])

    def test_money_gets_no_things(self):
        before = THINGS + (("request", 1, 0, 6, 0), ("point", [0, 2, 0, 0]))
        self.assert_told(before, ("things", 0), [0] * 5)
        self.assert_told(before, ("money", 0), [12, 0])

    def test_edges(self):
        before = (
            ("class", 0, ALL, 0), ("create", 0, 0, 1), ("create", 0, 19, 1), ("stock", 0, 4, 6),
            ("request", 0, 0, 1, 1), ("request", 0, 19, 1, 1), ("point", [1, 0, 0, 0]))
        for h in (0, 19):
            self.assert_told(before, ("things", h), [0, 0, 0, 0, 3])

    def test_out_of_range(self):
        for before in ((), THINGS):
            for h in (-1, 20, -20, FAR, -FAR):
                self.assert_refused(before, ("things", h), -1)
