"""The call point, and what a point does."""

from tests.helper import BILLION, FAR, CallCase, ask, ask_house, house_after, last
from fundgates.points import fund_pot

ALL = 1000000
TENTH = 100000
HALF = 500000
ONE = [1, 0, 0, 0]


def owed(house):
    return {h: holder.owed for h, holder in enumerate(house.holders) if holder.owed}


def got(house):
    return {h: holder.got for h, holder in enumerate(house.holders) if any(holder.got)}


def held(house, c):
    return {h: units for h, units in enumerate(house.classes[c].units) if units}


def paid(house):
    return [request.paid for request in house.requests]


def waits(house):
    return [request.waiting() for request in house.requests]


class PointCall(CallCase):
    THERE = (("class", 1, ALL, 0), ("class", 3, ALL, 0), ("create", 1, 0, 5), ("request", 1, 0, 2, 0))

    def test_counts_up_and_answers_nine_numbers(self):
        self.assertEqual(
            ask(*self.THERE, ("point", [0, 1, 0, 1]), ("point", [0, 9, 0, 9]), ("point", [0, 0, 0, 0]),
                ("point", [0, 1, 0, 1]))[4:],
            [[0, 0, 0, 2, 2, 0, 0, 0, 0], [1] + [0] * 8, [-1], [2] + [0] * 8])

    def test_with_no_class_at_all(self):
        self.assertEqual(ask(("point", [0, 0, 0, 0]), ("point", [0, 0, 0, 0])), [[0] * 9, [1] + [0] * 8])

    def test_price_edges(self):
        for price in (1, 100000):
            self.assert_answer(self.THERE, ("point", [0, price, 0, price]), [0, 0, 0, 2, 2, 0, 0, 0, 0])

    def test_price_out_of_range(self):
        for price in (0, -1, 100001, FAR, -FAR):
            self.assert_refused(self.THERE, ("point", [0, price, 0, 1]), -1)
            self.assert_refused(self.THERE, ("point", [0, 1, 0, price]), -1)

    def test_price_of_a_class_that_is_not_there(self):
        for price in (1, -1, 100000, FAR, -FAR):
            self.assert_refused(self.THERE, ("point", [price, 1, 0, 1]), -1)
            self.assert_refused(self.THERE, ("point", [0, 1, price, 1]), -1)
            self.assert_refused((), ("point", [0, 0, 0, price]), -1)

    def test_another_count_than_four(self):
        for prices in ([], [0], [0, 1, 0], [0, 1, 0, 1, 0], [0, 1, 0, 1] * 25):
            self.assert_refused(self.THERE, ("point", prices), -1)
        self.assert_refused((), ("point", []), -1)
        self.assert_refused((), ("point", [0, 0, 0, 0, 0]), -1)

    def test_what_stands_behind_a_refused_row_is_read_rightly(self):
        self.assertEqual(ask(("point", [9] * 100), ("fund", 7), ("point", []), ("fund", 8)),
                         [[-1], [ALL], [-1], [7]])

    def test_a_suspended_class_and_an_empty_one_need_a_price(self):
        before = self.THERE + (("suspend", 1, 1),)
        self.assert_refused(before, ("point", [0, 0, 0, 1]), -1)
        self.assert_refused(before, ("point", [0, 1, 0, 0]), -1)
        self.assert_answer(before, ("point", [0, 1, 0, 1]), [0] * 9)


class OwnCap(CallCase):
    """A point's part 1."""

    def capped(self, limit, units, asked):
        return last(("class", 0, limit, 0), ("create", 0, 0, units), ("request", 0, 0, asked, 0), ("point", ONE))[1:3]

    def test_by_the_limit(self):
        self.assertEqual(self.capped(TENTH, 100, 100), [10, 10])
        self.assertEqual(self.capped(ALL, 100, 100), [100, 100])
        self.assertEqual(self.capped(ALL, BILLION, BILLION), [BILLION, BILLION])

    def test_rounded_down(self):
        self.assertEqual(self.capped(TENTH, 109, 100), [10, 10])
        self.assertEqual(self.capped(TENTH, 110, 100), [11, 11])
        self.assertEqual(self.capped(999999, 100, 100), [99, 99])

    def test_at_least_1(self):
        self.assertEqual(self.capped(TENTH, 9, 9), [1, 1])
        self.assertEqual(self.capped(1, 1, 1), [1, 1])
        self.assertEqual(self.capped(1, 1999999, 5), [1, 1])
        self.assertEqual(self.capped(1, 2000000, 5), [2, 2])

    def test_wants_no_more_than_is_waited_for(self):
        self.assertEqual(self.capped(HALF, 100, 49), [49, 49])
        self.assertEqual(self.capped(HALF, 100, 50), [50, 50])
        self.assertEqual(self.capped(HALF, 100, 51), [50, 50])

    def test_nothing_is_waited_for(self):
        self.assert_answer((("class", 0, ALL, 0), ("create", 0, 0, 5)), ("point", ONE), [0] * 9)
        self.assert_answer(
            (("class", 0, ALL, 0), ("create", 0, 0, 5), ("request", 0, 0, 5, 0), ("withdraw", 0, 5)),
            ("point", ONE), [0] * 9)

    def test_what_is_taken_back_is_not_waited_for(self):
        before = (("class", 0, ALL, 0), ("create", 0, 0, 5), ("request", 0, 0, 5, 0), ("withdraw", 0, 2))
        self.assert_answer(before, ("point", ONE), [0, 3, 3] + [0] * 6)
        self.assertEqual(paid(house_after(*before, ("point", ONE))), [3])

    def test_suspended(self):
        before = (("class", 0, ALL, 0), ("create", 0, 0, 5), ("request", 0, 0, 5, 0), ("suspend", 0, 1))
        self.assert_answer(before, ("point", ONE), [0] * 9)
        house = house_after(*before, ("point", ONE))
        self.assertEqual((waits(house), held(house, 0), owed(house)), ([5], {0: 5}, {}))
        self.assert_answer(before + (("point", ONE), ("suspend", 0, 0)), ("point", ONE), [1, 5, 5] + [0] * 6)

    def test_no_units_in_issue(self):
        self.assert_answer((("class", 0, ALL, 0),), ("point", ONE), [0] * 9)
        self.assert_answer(
            (("class", 0, ALL, 0), ("create", 0, 0, 5), ("request", 0, 0, 5, 0), ("point", ONE)),
            ("point", ONE), [1] + [0] * 8)

    def test_the_limit_is_the_one_of_now(self):
        before = (("class", 0, ALL, 0), ("create", 0, 0, 100), ("request", 0, 0, 50, 0), ("class", 0, TENTH, 0))
        self.assert_answer(before, ("point", ONE), [0, 10, 10] + [0] * 6)

    def test_in_issue_are_the_units_of_those_who_do_not_ask_too(self):
        before = (("class", 0, TENTH, 0), ("create", 0, 0, 20), ("create", 0, 1, 80), ("request", 0, 0, 20, 0))
        self.assert_answer(before, ("point", ONE), [0, 10, 10] + [0] * 6)


class FundPot(CallCase):
    """A point's part 2."""

    def two(self, fund_limit, prices, asked=(100, 100)):
        return last(
            ("class", 0, ALL, 0), ("class", 1, ALL, 0), ("fund", fund_limit), ("create", 0, 0, 100),
            ("create", 1, 1, 100), ("request", 0, 0, asked[0], 0), ("request", 1, 1, asked[1], 0),
            ("point", prices + [0, 0]))[1:5]

    def test_enough(self):
        self.assertEqual(self.two(ALL, [3, 5]), [100, 100, 100, 100])
        self.assertEqual(self.two(HALF, [3, 5], (50, 50)), [50, 50, 50, 50])

    def test_just_enough_and_just_short(self):
        # All is worth 800, half of it 400: 100 x 3 + 20 x 5 = 400; 100 x 3 + 21 x 5 = 405.
        self.assertEqual(self.two(HALF, [3, 5], (100, 20)), [100, 100, 20, 20])
        # 405 are short of 400: 300 x 400 / 405 = 296.2, 105 x 400 / 405 = 103.7; 300 / 297 > 105 / 104: 297 and 103.
        self.assertEqual(self.two(HALF, [3, 5], (100, 21)), [99, 99, 20, 20])

    def test_short(self):
        # A tenth of 800 is 80: 30 and 50; 10 units each.
        self.assertEqual(self.two(TENTH, [3, 5]), [10, 10, 10, 10])
        # A tenth of 1000 is 100: 30 and 70; 10 units each.
        self.assertEqual(self.two(TENTH, [3, 7]), [10, 10, 10, 10])
        # 50 x 3 and 100 x 7 share 100: 17.6 and 82.3; 150 / 18 = 8.33 against 700 / 83 = 8.43: 17 and 83.
        self.assertEqual(self.two(TENTH, [3, 7], (50, 100)), [5, 5, 11, 11])

    def test_the_pot_is_rounded_down(self):
        # 200 units at 1, limit 29999: 5.9998, so 5: of 100 and 100: 3 and 2.
        self.assertEqual(self.two(29999, [1, 1]), [3, 3, 2, 2])

    def test_the_pot_is_at_least_1_and_so_is_what_might_go(self):
        # 200 x 1 / 1000000 is below 1; the piece is class 0's, yet class 1 may go with 1.
        self.assertEqual(self.two(1, [1, 1]), [1, 1, 1, 1])

    def test_the_pot_by_itself(self):
        # Whether a pot is 0 or 1 no answer shows, as whoever wants something may go with 1 anyway.
        before = (("class", 0, ALL, 0), ("class", 2, ALL, 0), ("create", 0, 0, 100), ("create", 2, 5, 50))
        self.assertEqual(fund_pot(house_after(), [0, 0, 0, 0]), 1)
        self.assertEqual(fund_pot(house_after(*before, ("fund", 1)), [3, 0, 4, 0]), 1)
        self.assertEqual(fund_pot(house_after(*before, ("fund", 3999)), [3, 0, 4, 0]), 1)
        self.assertEqual(fund_pot(house_after(*before, ("fund", 4000)), [3, 0, 4, 0]), 2)
        self.assertEqual(fund_pot(house_after(*before, ("suspend", 0, 1)), [3, 0, 4, 0]), 500)

    def test_the_pot_is_no_more_than_1_where_it_would_be_less(self):
        before = (("class", 0, ALL, 0), ("fund", 1), ("create", 0, 0, 100), ("request", 0, 0, 5, 0))
        self.assert_answer(before, ("point", ONE), [0, 1, 1] + [0] * 6)

    def test_a_pot_of_at_least_1_is_enough_for_one_unit_at_1(self):
        self.assertEqual(self.two(1, [1, 1], (1, 1)), [1, 1, 1, 1])
        self.assertEqual(
            last(("class", 0, ALL, 0), ("fund", 1), ("create", 0, 0, 1), ("request", 0, 0, 1, 0), ("point", ONE))[1:3],
            [1, 1])

    def test_a_part_below_the_price(self):
        # All is worth 10000100. Limit 10 makes 100: 99.999 and 0.001, so 100 and 0: neither is a unit's price.
        self.assertEqual(self.two(10, [100000, 1]), [1, 1, 1, 1])
        # Limit 25000 makes 250002: 249999.5 and 2.5; 100 / 3 against 10000000 / 250000 = 40: 250000 and 2.
        self.assertEqual(self.two(25000, [100000, 1]), [2, 2, 2, 2])

    def test_who_wants_nothing_has_nothing(self):
        given = last(
            ("class", 0, ALL, 0), ("class", 1, ALL, 0), ("class", 3, ALL, 0), ("fund", TENTH), ("create", 0, 0, 100),
            ("create", 1, 1, 100), ("create", 3, 2, 100), ("request", 0, 0, 100, 0), ("request", 3, 2, 100, 0),
            ("suspend", 3, 1), ("point", [1, 1, 0, 1]))
        # The pot is a tenth of 300: of classes that want nothing, or are suspended, the units count too.
        self.assertEqual(given, [0, 30, 30, 0, 0, 0, 0, 0, 0])

    def test_what_the_own_cap_keeps_back_is_not_asked_of_the_pot(self):
        given = last(
            ("class", 0, TENTH, 0), ("class", 1, ALL, 0), ("fund", HALF), ("create", 0, 0, 100),
            ("create", 1, 1, 100), ("request", 0, 0, 100, 0), ("request", 1, 1, 100, 0), ("point", [2, 2, 0, 0]))
        # 20 and 200 share 200: 18.18 and 181.8; 20 / 19 = 1.0526 against 200 / 182 = 1.0989: 18 and 182.
        self.assertEqual(given[1:5], [9, 9, 91, 91])

    def test_alike_classes_the_first_gets_the_piece(self):
        given = last(
            ("class", 1, ALL, 0), ("class", 2, ALL, 0), ("class", 3, ALL, 0), ("fund", TENTH), ("create", 1, 0, 10),
            ("create", 2, 0, 10), ("create", 3, 0, 20), ("request", 1, 0, 10, 0), ("request", 2, 0, 10, 0),
            ("request", 3, 0, 10, 0), ("point", [0, 1, 1, 1]))
        self.assertEqual(given, [0, 0, 0, 2, 2, 1, 1, 1, 1])

    def test_four_classes_and_prices(self):
        given = last(
            ("class", 0, ALL, 0), ("class", 1, HALF, 1), ("class", 2, ALL, 0), ("class", 3, TENTH, 1), ("fund", 200000),
            ("create", 0, 0, 100), ("create", 1, 1, 100), ("create", 2, 2, 50), ("create", 3, 3, 1000),
            ("request", 0, 0, 10, 0), ("request", 1, 1, 100, 0), ("request", 2, 2, 50, 0), ("request", 3, 3, 1000, 0),
            ("point", [7, 4, 10, 1]))
        # Worth 700 + 400 + 500 + 1000 = 2600, a fifth is 520. Wanted 10, 50, 50, 100: 70 + 200 + 500 + 100 = 870.
        # 41.8, 119.5, 298.9, 59.8: three pieces left: 70/42 = 1.667, 200/120 = 1.667, 500/299 = 1.672, 100/60 = 1.667:
        # the third has one; then 500/300 = 1.667 too, all alike, the first and the second: 42, 120, 299, 59.
        self.assertEqual(given, [0, 6, 6, 30, 30, 29, 29, 59, 59])

    def test_no_more_than_wanted_where_the_price_is_great(self):
        # Each wants 1 of 1 at the edge prices; the pot of 50000 is short of 100001 and gives everyone at least 1.
        given = last(
            ("class", 0, ALL, 0), ("class", 1, ALL, 0), ("fund", HALF), ("create", 0, 0, 1), ("create", 1, 1, 1),
            ("request", 0, 0, 1, 0), ("request", 1, 1, 1, 0), ("point", [100000, 1, 0, 0]))
        self.assertEqual(given[1:5], [1, 1, 1, 1])

    def test_greatest_numbers(self):
        before = []
        for c in range(4):
            before += [("class", c, ALL, c % 2), ("create", c, c, BILLION), ("request", c, c, BILLION, 0)]
        given = last(*before, ("fund", HALF), ("point", [100000] * 4))
        self.assertEqual(given, [0] + [HALF * 1000] * 8)


class Sharing(CallCase):
    """A point's part 3."""

    def test_the_documents_example(self):
        house = house_after(
            ("class", 0, TENTH, 0), ("create", 0, 0, 60), ("create", 0, 1, 40), ("request", 0, 0, 60, 0),
            ("request", 0, 1, 40, 0))
        self.assertEqual(ask_house(house, ("point", ONE)), [[0, 10, 10] + [0] * 6])
        self.assertEqual(paid(house), [6, 4])
        self.assertEqual(ask_house(house, ("point", ONE)), [[1, 9, 9] + [0] * 6])
        self.assertEqual(paid(house), [12, 7])
        self.assertEqual(held(house, 0), {0: 48, 1: 33})

    def two_points(self, way, more=()):
        """Holder 0 asks 6 and holder 1 asks 4 at point 0, holder 0 asks 10 and holder 2 asks 20 at point 1."""
        return house_after(
            ("class", 0, 1, way), ("create", 0, 0, 20), ("create", 0, 1, 10), ("create", 0, 2, 20),
            ("request", 0, 0, 6, 0), ("request", 0, 1, 4, 0), ("suspend", 0, 1), ("point", ONE), ("suspend", 0, 0),
            ("request", 0, 0, 10, 0), ("request", 0, 2, 20, 0), *more)

    def test_together(self):
        house = self.two_points(0, (("class", 0, 200000, 0), ("point", ONE)))
        # 10 shared by 16, 4, 20; holder 0's 4 go to the older request.
        self.assertEqual(paid(house), [4, 1, 0, 5])

    def test_together_runs_over_to_the_holders_next_request(self):
        house = self.two_points(0, (("class", 0, 600000, 0), ("point", ONE)))
        # 30 shared by 16, 4, 20: 12, 3, 15.
        self.assertEqual(paid(house), [6, 3, 6, 15])

    def test_by_age_short_for_the_oldest(self):
        house = self.two_points(1, (("class", 0, TENTH, 1), ("point", ONE)))
        # 5 shared by 6 and 4: 3 and 2.
        self.assertEqual(paid(house), [3, 2, 0, 0])

    def test_by_age_just_enough_for_the_oldest(self):
        house = self.two_points(1, (("class", 0, 200000, 1), ("point", ONE)))
        self.assertEqual(paid(house), [6, 4, 0, 0])

    def test_by_age_what_is_left_goes_to_the_next(self):
        house = self.two_points(1, (("class", 0, 500000, 1), ("point", ONE)))
        # 25: 10 to the oldest, 15 shared by 10 and 20.
        self.assertEqual(paid(house), [6, 4, 5, 10])

    def test_by_age_over_three_points(self):
        house = self.two_points(1, (("point", ONE), ("request", 0, 1, 6, 0), ("class", 0, 900000, 1), ("point", ONE)))
        # At point 1 one unit goes (at least 1): 6 against 4, so holder 0's; at point 2 49 are in issue, 44 might go:
        # 5 and 4 of the oldest, 10 and 20 of the next, 5 of the 6.
        self.assertEqual(paid(house), [6, 4, 10, 20, 5])

    def test_way_is_the_one_of_now(self):
        self.assertEqual(paid(self.two_points(1, (("class", 0, TENTH, 0), ("point", ONE)))), [2, 0, 0, 3])
        self.assertEqual(paid(self.two_points(0, (("class", 0, TENTH, 1), ("point", ONE)))), [3, 2, 0, 0])

    def test_a_holder_shares_by_all_requests_together(self):
        before = (
            ("class", 0, TENTH, 0), ("create", 0, 0, 15), ("create", 0, 1, 15), ("request", 0, 0, 5, 0),
            ("request", 0, 1, 15, 0), ("request", 0, 0, 5, 0), ("request", 0, 0, 5, 0))
        for way in (0, 1):
            house = house_after(*before, ("class", 0, TENTH, way), ("point", ONE))
            # 3 shared by 15 and 15: 2 and 1, not piece by piece among 5, 15, 5, 5.
            self.assertEqual(paid(house), [2, 1, 0, 0])

    def test_holders_go_by_their_numbers_not_by_their_requests(self):
        house = house_after(
            ("class", 0, TENTH, 0), ("create", 0, 7, 5), ("create", 0, 3, 5), ("request", 0, 7, 5, 0),
            ("request", 0, 3, 5, 0), ("point", ONE))
        self.assertEqual(paid(house), [0, 1])

    def test_requests_go_by_their_places(self):
        house = house_after(
            ("class", 0, 700000, 0), ("create", 0, 0, 10), ("request", 0, 0, 3, 1), ("request", 0, 0, 6, 0),
            ("request", 0, 0, 1, 0), ("point", ONE))
        self.assertEqual(paid(house), [3, 4, 0])

    def test_what_is_taken_back_or_paid_has_no_part(self):
        house = house_after(
            ("class", 0, TENTH, 0), ("create", 0, 0, 50), ("create", 0, 1, 50), ("request", 0, 0, 50, 0),
            ("request", 0, 1, 50, 0), ("withdraw", 0, 40), ("point", ONE))
        # 10 shared by 10 and 50: 1.67 and 8.3: 10 / 2 = 5 against 50 / 9 = 5.6.
        self.assertEqual(paid(house), [1, 9])
        ask_house(house, ("point", ONE))
        # 9 shared by 9 and 41: 1.62 and 7.38; 9 / 2 = 4.5 against 41 / 8 = 5.1.
        self.assertEqual(paid(house), [2, 17])

    def test_classes_do_not_share_with_one_another(self):
        house = house_after(
            ("class", 0, TENTH, 0), ("class", 2, HALF, 1), ("create", 0, 0, 100), ("create", 2, 0, 100),
            ("create", 2, 1, 100), ("request", 2, 0, 100, 0), ("request", 0, 0, 100, 0), ("request", 2, 1, 100, 0),
            ("point", [1, 0, 1, 0]))
        self.assertEqual(paid(house), [50, 10, 50])

    def test_age_is_the_point_it_is_of_not_the_place_alone(self):
        house = self.two_points(1, (("withdraw", 0, 6), ("withdraw", 1, 3), ("class", 0, TENTH, 1), ("point", ONE)))
        # 5: 1 to the oldest that waits, 4 shared by 10 and 20: 1.3 and 2.7: 10 / 2 = 5 against 20 / 3.
        self.assertEqual(paid(house), [0, 1, 1, 3])


class Payment(CallCase):
    """A point's part 4."""

    def test_cancelled(self):
        house = house_after(
            ("class", 0, HALF, 0), ("create", 0, 0, 60), ("create", 0, 1, 40), ("request", 0, 0, 60, 0),
            ("request", 0, 1, 40, 1), ("point", ONE), ("point", ONE))
        self.assertEqual(held(house, 0), {0: 15, 1: 10})
        self.assertEqual((house.classes[0].created, house.classes[0].cancelled), (100, 75))
        self.assertEqual(waits(house), [15, 10])

    def test_money(self):
        house = house_after(
            ("class", 0, ALL, 0), ("class", 1, ALL, 0), ("create", 0, 0, 60), ("create", 1, 0, 40), ("create", 1, 4, 3),
            ("stock", 0, 0, 100), ("stock", 1, 0, 100), ("request", 0, 0, 50, 0), ("request", 1, 0, 40, 0),
            ("request", 1, 4, 2, 0), ("request", 0, 0, 1, 0), ("point", [7, 11, 0, 0]))
        self.assertEqual(owed(house), {0: 51 * 7 + 40 * 11, 4: 22})
        self.assertEqual(got(house), {})
        self.assertEqual(house.classes[0].stock, [100, 0, 0, 0, 0])
        self.assertEqual([holder.out for holder in house.holders], [0] * 20)

    def test_money_of_several_points_adds_up(self):
        house = house_after(
            ("class", 0, TENTH, 0), ("create", 0, 0, 100), ("request", 0, 0, 100, 0), ("point", [3, 0, 0, 0]),
            ("point", [5, 0, 0, 0]))
        self.assertEqual(owed(house), {0: 10 * 3 + 9 * 5})

    def test_in_kind(self):
        house = house_after(
            ("class", 0, HALF, 0), ("create", 0, 0, 6), ("create", 0, 1, 4), ("stock", 0, 0, 100), ("stock", 0, 1, 19),
            ("stock", 0, 3, 1), ("stock", 0, 4, BILLION), ("request", 0, 0, 6, 1), ("point", [100, 0, 0, 0]))
        # 5 of 10 units: half of each, rounded down.
        self.assertEqual(got(house), {0: [50, 9, 0, 0, HALF * 1000]})
        self.assertEqual(house.classes[0].stock, [50, 10, 0, 1, HALF * 1000])
        self.assertEqual(owed(house), {})

    def test_stock_and_units_of_the_points_beginning(self):
        house = house_after(
            ("class", 0, ALL, 0), ("create", 0, 0, 4), ("create", 0, 1, 4), ("create", 0, 2, 2), ("stock", 0, 2, 100),
            ("request", 0, 2, 2, 0), ("request", 0, 0, 4, 1), ("request", 0, 1, 4, 1), ("point", ONE))
        self.assertEqual(got(house), {0: [0, 0, 40, 0, 0], 1: [0, 0, 40, 0, 0]})
        self.assertEqual(house.classes[0].stock, [0, 0, 20, 0, 0])
        self.assertEqual(owed(house), {2: 2})

    def test_by_age_too_all_reckon_with_the_points_beginning(self):
        house = house_after(
            ("class", 0, ALL, 1), ("create", 0, 0, 5), ("create", 0, 1, 5), ("stock", 0, 2, 100),
            ("request", 0, 0, 5, 1), ("suspend", 0, 1), ("point", ONE), ("suspend", 0, 0), ("request", 0, 1, 5, 1),
            ("point", ONE))
        self.assertEqual(got(house), {0: [0, 0, 50, 0, 0], 1: [0, 0, 50, 0, 0]})

    def test_rounded_down_for_each_request_by_itself(self):
        house = house_after(
            ("class", 0, ALL, 0), ("create", 0, 0, 4), ("stock", 0, 0, 6), ("stock", 0, 1, 3),
            ("request", 0, 0, 1, 1), ("request", 0, 0, 1, 1), ("request", 0, 0, 1, 1), ("point", ONE))
        # 6 x 1 / 4 = 1 and 3 x 1 / 4 = 0 for each of three; together it would be 4 and 2.
        self.assertEqual(got(house), {0: [3, 0, 0, 0, 0]})
        self.assertEqual(house.classes[0].stock, [3, 3, 0, 0, 0])

    def test_things_of_several_points_add_up(self):
        house = house_after(
            ("class", 0, HALF, 0), ("create", 0, 0, 8), ("stock", 0, 0, 80), ("request", 0, 0, 8, 1), ("point", ONE))
        self.assertEqual(got(house), {0: [40, 0, 0, 0, 0]})
        ask_house(house, ("point", ONE))
        self.assertEqual(got(house), {0: [60, 0, 0, 0, 0]})
        self.assertEqual(house.classes[0].stock, [20, 0, 0, 0, 0])

    def test_only_what_is_paid_now_counts(self):
        house = house_after(
            ("class", 0, ALL, 0), ("create", 0, 0, 8), ("request", 0, 0, 4, 0), ("request", 0, 0, 3, 1),
            ("point", [5, 0, 0, 0]), ("stock", 0, 0, 9), ("point", [7, 0, 0, 0]))
        self.assertEqual((owed(house), got(house)), ({0: 20}, {}))

    def test_the_last_units_take_the_whole_stock(self):
        house = house_after(
            ("class", 0, ALL, 0), ("create", 0, 0, 3), ("stock", 0, 0, 7), ("request", 0, 0, 3, 1), ("point", ONE))
        self.assertEqual((got(house), house.classes[0].stock), ({0: [7, 0, 0, 0, 0]}, [0] * 5))

    def test_stock_seen_from_outside(self):
        self.assertEqual(
            last(("class", 0, HALF, 0), ("create", 0, 0, 10), ("stock", 0, 1, 99), ("request", 0, 0, 10, 1),
                 ("point", ONE), ("stock", 0, 1, 0)), [50])

    def test_units_seen_from_outside(self):
        before = (("class", 0, HALF, 0), ("create", 0, 0, 10), ("request", 0, 0, 10, 0), ("point", ONE))
        self.assert_answer(before, ("create", 0, 0, 1), [6])
        self.assert_answer(before, ("withdraw", 0, 1), [4])
        self.assert_answer(before, ("withdraw", 0, 5), [0])
        self.assert_refused(before, ("withdraw", 0, 6), -5)
