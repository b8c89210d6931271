"""The calls pocket and release."""

from tests.helper import BILLION, FAR, CallCase, ask, ask_house, house_after, last

CLASS = ("class", 0, 1000000, 0)
HELD = (CLASS, ("create", 0, 0, 10), ("create", 0, 1, 10), ("create", 0, 2, 5))
POCKET = HELD + (("pocket", 0),)


def parts(*first):
    return list(first) + [0] * (20 - len(first))


class Pocket(CallCase):
    def test_places_count_up_over_classes(self):
        self.assertEqual(
            ask(*HELD, ("class", 3, 5, 0), ("create", 3, 0, 1), ("pocket", 0), ("pocket", 1), ("pocket", 3),
                ("pocket", 0))[6:],
            [[0], [-2], [1], [2]])

    def test_what_it_keeps(self):
        pocket = house_after(*HELD, ("class", 3, 5, 0), ("create", 3, 19, 6), ("pocket", 3)).pockets[0]
        self.assertEqual((pocket.c, pocket.units, pocket.given), (3, [0] * 19 + [6], 0))

    def test_belongs_to_those_who_held_units_on_that_day(self):
        given = last(*POCKET, ("transfer", 0, 0, 5, 10), ("create", 0, 7, 99), ("release", 0, 5))
        self.assertEqual(given, [5] + parts(2, 2, 1))

    def test_locked_units_are_held_too(self):
        given = last(*HELD, ("request", 0, 0, 10, 0), ("pocket", 0), ("point", [1, 0, 0, 0]), ("release", 0, 5))
        self.assertEqual(given, [5] + parts(2, 2, 1))

    def test_a_suspended_class_may_have_one(self):
        self.assert_answer(HELD + (("suspend", 0, 1),), ("pocket", 0), [0])

    def test_no_class(self):
        for c in (1, 3, 4, -1, -4, FAR, -FAR):
            self.assert_refused(HELD, ("pocket", c), -2)

    def test_twenty_and_no_more(self):
        before = HELD + (("class", 1, 5, 0),) + (("pocket", 0),) * 19
        self.assert_answer(before, ("pocket", 0), [19])
        before += (("pocket", 0),)
        self.assert_refused(before, ("pocket", 0), -3)
        self.assert_refused(before, ("pocket", 1), -3)
        self.assert_refused(before, ("pocket", 2), -2)

    def test_no_units_in_issue(self):
        self.assert_refused((CLASS,), ("pocket", 0), -5)
        self.assert_refused(
            (CLASS, ("create", 0, 0, 3), ("request", 0, 0, 3, 0), ("point", [1, 0, 0, 0])), ("pocket", 0), -5)
        self.assert_answer((CLASS, ("create", 0, 19, 1)), ("pocket", 0), [0])


class Release(CallCase):
    def test_divides_by_the_units(self):
        self.assert_answer(POCKET, ("release", 0, 5), [5] + parts(2, 2, 1))
        self.assert_answer(POCKET, ("release", 0, 4), [4] + parts(2, 2, 0))

    def test_each_time_the_part_of_all_less_the_part_of_before(self):
        # All that's given is divided: 1: 1 0 0; 2: 1 1 0; 3: 2 1 0; 4: 2 2 0; 5: 2 2 1; 12: 5 5 2.
        self.assertEqual(
            ask(*POCKET, ("release", 0, 1), ("release", 0, 1), ("release", 0, 1), ("release", 0, 1),
                ("release", 0, 1), ("release", 0, 7))[5:],
            [[1] + parts(1), [2] + parts(0, 1), [3] + parts(1), [4] + parts(0, 1), [5] + parts(0, 0, 1),
             [12] + parts(3, 3, 1)])

    def test_is_owed(self):
        house = house_after(*POCKET, ("release", 0, 4), ("release", 0, 1), ("release", 0, 0))
        self.assertEqual([holder.owed for holder in house.holders], parts(2, 2, 1))
        self.assertEqual([holder.out for holder in house.holders], parts())
        self.assertEqual(house.pockets[0].given, 5)

    def test_comes_on_top_of_what_is_owed(self):
        house = house_after(*POCKET, ("request", 0, 2, 5, 0), ("point", [7, 0, 0, 0]), ("release", 0, 5))
        self.assertEqual([holder.owed for holder in house.holders], parts(2, 2, 36))

    def test_pockets_do_not_know_of_one_another(self):
        self.assertEqual(
            ask(*POCKET, ("transfer", 0, 0, 3, 10), ("pocket", 0), ("release", 0, 1), ("release", 1, 1),
                ("release", 0, 1), ("release", 1, 2))[7:],
            [[1] + parts(1), [1] + parts(0, 1), [2] + parts(0, 1), [3] + parts(0, 1, 0, 1)])

    def test_edges(self):
        self.assert_answer(POCKET, ("release", 0, 1), [1] + parts(1))
        self.assert_answer(POCKET, ("release", 0, BILLION), [BILLION] + parts(400000000, 400000000, 200000000))

    def test_no_such_pocket(self):
        self.assert_refused(HELD, ("release", 0, 1), -6)
        for place in (1, -1, FAR, -FAR):
            self.assert_refused(POCKET, ("release", place, 1), -6)

    def test_out_of_range(self):
        for money in (0, -1, BILLION + 1, FAR, -FAR):
            self.assert_refused(POCKET, ("release", 0, money), -1)

    def test_a_million_millions_and_no_more(self):
        # A line has 400 calls at most, too few to give so much: the pocket is set near its end by hand.
        for short in (0, 1, BILLION):
            house = house_after(*POCKET)
            house.pockets[0].given = 10 ** 12 - short
            self.assertEqual(ask_house(house, ("release", 0, 1))[0][0], -3 if short == 0 else 10 ** 12 - short + 1)
        house.pockets[0].given = 10 ** 12 - BILLION
        self.assertEqual(ask_house(house, ("release", 0, BILLION))[0][0], 10 ** 12)
        house.pockets[0].given = 10 ** 12 - BILLION + 1
        self.assertEqual(ask_house(house, ("release", 0, BILLION)), [[-3]])
        self.assertEqual(ask_house(house, ("release", 0, BILLION + 1)), [[-1]])
        self.assertEqual(ask_house(house, ("release", 1, BILLION)), [[-6]])
        self.assertEqual(house.pockets[0].given, 10 ** 12 - BILLION + 1)

    def test_first_refusal_counts(self):
        self.assert_refused(POCKET, ("release", 1, 0), -6)

    def test_money_is_given_whole_and_never_taken_back(self):
        before = (CLASS,) + tuple(("create", 0, h, h * h % 17 + h) for h in range(1, 20)) + (("pocket", 0),)
        amounts = [1, 2, 3, 1, 50, 7, 1, 1, 1000, 13] * 10
        house = house_after(*before)
        for money in amounts:
            answer = ask_house(house, ("release", 0, money))[0]
            self.assertEqual(sum(answer[1:]), money)
            self.assertGreaterEqual(min(answer[1:]), 0)
            self.assertEqual(answer[1], 0)
