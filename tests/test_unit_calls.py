"""The calls create, transfer, request and withdraw."""

from tests.helper import BILLION, FAR, CallCase, ask, house_after, last

CLASS = ("class", 0, 1000000, 0)
TEN = (CLASS, ("create", 0, 0, 10))


class Create(CallCase):
    def test_adds_up(self):
        self.assertEqual(
            ask(CLASS, ("class", 1, 5, 0), ("create", 0, 4, 7), ("create", 0, 4, 8), ("create", 0, 5, 1),
                ("create", 1, 4, 2)),
            [[0], [0], [7], [15], [1], [2]])

    def test_counts_as_created(self):
        house = house_after(CLASS, ("create", 0, 4, 7), ("create", 0, 5, 8), ("create", 0, 5, 0))
        self.assertEqual(house.classes[0].created, 15)
        self.assertEqual(house.classes[0].cancelled, 0)

    def test_edges(self):
        for h in (0, 19):
            self.assert_answer((CLASS,), ("create", 0, h, 1), [1])
            self.assert_answer((CLASS,), ("create", 0, h, BILLION), [BILLION])

    def test_no_class(self):
        for c in (1, 3, 4, -1, -4, FAR, -FAR):
            self.assert_refused((CLASS,), ("create", c, 0, 1), -2)

    def test_out_of_range(self):
        for h in (-1, 20, FAR, -FAR):
            self.assert_refused((CLASS,), ("create", 0, h, 1), -1)
        for units in (0, -1, BILLION + 1, FAR, -FAR):
            self.assert_refused((CLASS,), ("create", 0, 0, units), -1)

    def test_too_many_in_issue(self):
        before = (CLASS, ("class", 1, 5, 0), ("create", 0, 0, 10), ("create", 0, 1, 20))
        self.assert_answer(before, ("create", 0, 2, BILLION - 30), [BILLION - 30])
        self.assert_refused(before, ("create", 0, 2, BILLION - 29), -3)
        self.assert_answer(before, ("create", 1, 2, BILLION), [BILLION])

    def test_cancelled_units_are_not_in_issue(self):
        before = (CLASS, ("create", 0, 0, BILLION), ("request", 0, 0, 5, 0), ("point", [1, 0, 0, 0]))
        self.assert_answer(before, ("create", 0, 1, 5), [5])
        self.assert_refused(before, ("create", 0, 1, 6), -3)

    def test_first_refusal_counts(self):
        before = (CLASS, ("create", 0, 0, BILLION))
        self.assert_refused(before, ("create", 1, 20, 0), -2)
        self.assert_refused(before, ("create", 0, 20, BILLION), -1)
        self.assert_refused(before, ("create", 0, 0, BILLION + 1), -1)
        self.assert_refused(before, ("create", 0, 0, 1), -3)


class Transfer(CallCase):
    def test_moves_units(self):
        before = TEN + (("create", 0, 19, 1),)
        self.assert_answer(before, ("transfer", 0, 0, 19, 4), [6])
        house = house_after(*before, ("transfer", 0, 0, 19, 4))
        self.assertEqual(house.classes[0].units, [6] + [0] * 18 + [5])
        self.assertEqual(house.classes[0].created, 11)

    def test_back_and_forth(self):
        self.assertEqual(
            ask(*TEN, ("transfer", 0, 0, 19, 10), ("transfer", 0, 19, 0, 1), ("transfer", 0, 0, 19, 2))[2:],
            [[0], [9], [-5]])

    def test_edges(self):
        before = (CLASS, ("create", 0, 0, BILLION))
        self.assert_answer(before, ("transfer", 0, 0, 19, 1), [BILLION - 1])
        self.assert_answer(before, ("transfer", 0, 0, 1, BILLION), [0])
        self.assert_answer((CLASS, ("create", 0, 19, 3)), ("transfer", 0, 19, 0, 3), [0])

    def test_no_class(self):
        for c in (1, 3, 4, -1, -4, FAR, -FAR):
            self.assert_refused(TEN, ("transfer", c, 0, 1, 1), -2)

    def test_out_of_range(self):
        for h in (-1, 20, FAR, -FAR):
            self.assert_refused(TEN, ("transfer", 0, h, 1, 1), -1)
            self.assert_refused(TEN, ("transfer", 0, 0, h, 1), -1)
        for units in (0, -1, BILLION + 1, FAR, -FAR):
            self.assert_refused(TEN, ("transfer", 0, 0, 1, units), -1)

    def test_to_oneself_is_out_of_range(self):
        self.assert_refused(TEN, ("transfer", 0, 0, 0, 1), -1)
        self.assert_refused(TEN, ("transfer", 0, 7, 7, 1), -1)

    def test_too_few(self):
        self.assert_refused(TEN, ("transfer", 0, 0, 1, 11), -5)
        self.assert_refused(TEN, ("transfer", 0, 1, 0, 1), -5)

    def test_locked_units_stay(self):
        before = TEN + (("request", 0, 0, 3, 0), ("request", 0, 0, 2, 1))
        self.assert_answer(before, ("transfer", 0, 0, 1, 5), [5])
        self.assert_refused(before, ("transfer", 0, 0, 1, 6), -5)

    def test_locked_are_one_holders_of_one_class(self):
        before = TEN + (
            ("class", 1, 5, 0), ("create", 1, 0, 10), ("create", 0, 1, 10),
            ("request", 1, 0, 9, 0), ("request", 0, 1, 9, 0))
        self.assert_answer(before, ("transfer", 0, 0, 1, 10), [0])

    def test_what_is_taken_back_or_paid_is_not_locked(self):
        before = TEN + (("request", 0, 0, 6, 0), ("withdraw", 0, 2))
        self.assert_answer(before, ("transfer", 0, 0, 1, 6), [4])
        self.assert_refused(before, ("transfer", 0, 0, 1, 7), -5)
        before += (("point", [1, 0, 0, 0]),)
        self.assert_answer(before, ("transfer", 0, 0, 1, 6), [0])
        self.assert_refused(before, ("transfer", 0, 0, 1, 7), -5)

    def test_a_suspended_class_may_be_transferred(self):
        self.assert_answer(TEN + (("suspend", 0, 1),), ("transfer", 0, 0, 1, 4), [6])

    def test_first_refusal_counts(self):
        self.assert_refused(TEN, ("transfer", 1, 0, 0, 0), -2)
        self.assert_refused(TEN, ("transfer", 0, 0, 0, 11), -1)
        self.assert_refused(TEN, ("transfer", 0, 0, 20, 11), -1)
        self.assert_refused(TEN, ("transfer", 0, 0, 1, 11), -5)


class Request(CallCase):
    def test_places_count_up_over_classes(self):
        self.assertEqual(
            ask(*TEN, ("class", 1, 5, 1), ("create", 1, 5, 10), ("request", 0, 0, 1, 0), ("request", 1, 5, 1, 1),
                ("request", 0, 0, 11, 0), ("request", 0, 0, 9, 1))[4:],
            [[0], [1], [-5], [2]])

    def test_what_it_keeps(self):
        request = house_after(
            *TEN, ("point", [1, 0, 0, 0]), ("point", [1, 0, 0, 0]), ("request", 0, 0, 7, 1)).requests[0]
        self.assertEqual(
            (request.c, request.holder, request.point, request.in_kind, request.asked, request.paid,
             request.taken_back, request.waiting()),
            (0, 0, 2, 1, 7, 0, 0, 7))

    def test_edges(self):
        for h in (0, 19):
            for kind in (0, 1):
                for units in (1, BILLION):
                    self.assert_answer((CLASS, ("create", 0, h, BILLION)), ("request", 0, h, units, kind), [0])

    def test_no_class(self):
        for c in (1, 3, 4, -1, -4, FAR, -FAR):
            self.assert_refused(TEN, ("request", c, 0, 1, 0), -2)

    def test_out_of_range(self):
        for h in (-1, 20, FAR, -FAR):
            self.assert_refused(TEN, ("request", 0, h, 1, 0), -1)
        for units in (0, -1, BILLION + 1, FAR, -FAR):
            self.assert_refused(TEN, ("request", 0, 0, units, 0), -1)
        for kind in (-1, 2, FAR, -FAR):
            self.assert_refused(TEN, ("request", 0, 0, 1, kind), -1)

    def test_two_hundred_and_no_more(self):
        before = (CLASS, ("create", 0, 0, 300)) + (("request", 0, 0, 1, 0),) * 199
        self.assert_answer(before, ("request", 0, 0, 1, 0), [199])
        before += (("request", 0, 0, 1, 0),)
        self.assert_refused(before, ("request", 0, 0, 1, 0), -3)
        self.assert_refused(before, ("request", 0, 0, 101, 0), -3)
        self.assert_refused(before, ("request", 0, 0, 0, 0), -1)
        self.assert_refused(before, ("request", 1, 0, 0, 0), -2)

    def test_requests_that_are_done_count_too(self):
        before = (CLASS, ("create", 0, 0, 300)) + (("request", 0, 0, 1, 0),) * 200 + (("point", [1, 0, 0, 0]),)
        self.assert_refused(before, ("request", 0, 0, 1, 0), -3)

    def test_too_few(self):
        self.assert_answer(TEN, ("request", 0, 0, 10, 0), [0])
        self.assert_refused(TEN, ("request", 0, 0, 11, 0), -5)
        self.assert_refused(TEN, ("request", 0, 1, 1, 0), -5)

    def test_locked_units_are_asked_already(self):
        before = TEN + (("request", 0, 0, 3, 0), ("request", 0, 0, 3, 0), ("withdraw", 0, 1))
        self.assert_answer(before, ("request", 0, 0, 5, 0), [2])
        self.assert_refused(before, ("request", 0, 0, 6, 0), -5)

    def test_a_suspended_class_may_be_asked_back(self):
        self.assert_answer(TEN + (("suspend", 0, 1),), ("request", 0, 0, 4, 0), [0])

    def test_first_refusal_counts(self):
        self.assert_refused(TEN, ("request", 1, 20, 0, 2), -2)
        self.assert_refused(TEN, ("request", 0, 0, 11, 2), -1)
        self.assert_refused(TEN, ("request", 0, 0, 11, 1), -5)


class Withdraw(CallCase):
    ASKED = TEN + (("request", 0, 0, 3, 0), ("request", 0, 0, 6, 0))

    def test_answers_what_it_waits_for_then(self):
        self.assertEqual(
            ask(*self.ASKED, ("withdraw", 1, 2), ("withdraw", 1, 3), ("withdraw", 0, 3), ("withdraw", 1, 1))[4:],
            [[4], [1], [0], [0]])

    def test_is_kept_as_taken_back(self):
        request = house_after(*self.ASKED, ("withdraw", 1, 2), ("withdraw", 1, 3)).requests[1]
        self.assertEqual((request.asked, request.paid, request.taken_back), (6, 0, 5))

    def test_units_stay_with_the_holder(self):
        self.assert_answer(self.ASKED + (("withdraw", 1, 6),), ("create", 0, 0, 1), [11])

    def test_paid_units_are_not_waited_for(self):
        before = (("class", 0, 500000, 0), ("create", 0, 0, 10), ("request", 0, 0, 8, 0), ("point", [1, 0, 0, 0]))
        self.assert_answer(before, ("withdraw", 0, 1), [2])
        self.assert_answer(before, ("withdraw", 0, 3), [0])
        self.assert_refused(before, ("withdraw", 0, 4), -5)

    def test_edges(self):
        before = (CLASS, ("create", 0, 0, BILLION), ("request", 0, 0, BILLION, 0))
        self.assert_answer(before, ("withdraw", 0, 1), [BILLION - 1])
        self.assert_answer(before, ("withdraw", 0, BILLION), [0])

    def test_no_such_request(self):
        self.assert_refused((), ("withdraw", 0, 1), -6)
        for place in (2, -1, -2, FAR, -FAR):
            self.assert_refused(self.ASKED, ("withdraw", place, 1), -6)

    def test_out_of_range(self):
        for units in (0, -1, BILLION + 1, FAR, -FAR):
            self.assert_refused(self.ASKED, ("withdraw", 0, units), -1)

    def test_suspended(self):
        before = self.ASKED + (("suspend", 0, 1),)
        self.assert_refused(before, ("withdraw", 0, 1), -7)
        self.assert_answer(before + (("suspend", 0, 0),), ("withdraw", 0, 1), [2])

    def test_another_class_being_suspended_does_not_matter(self):
        before = self.ASKED + (("class", 1, 5, 0), ("suspend", 1, 1))
        self.assert_answer(before, ("withdraw", 0, 1), [2])

    def test_too_few(self):
        self.assert_refused(self.ASKED, ("withdraw", 0, 4), -5)
        self.assert_refused(self.ASKED + (("withdraw", 0, 3),), ("withdraw", 0, 1), -5)

    def test_first_refusal_counts(self):
        before = self.ASKED + (("suspend", 0, 1),)
        self.assert_refused(before, ("withdraw", 2, 0), -6)
        self.assert_refused(before, ("withdraw", 0, 0), -1)
        self.assert_refused(before, ("withdraw", 0, BILLION), -7)
        self.assert_refused(self.ASKED, ("withdraw", 0, BILLION), -5)

    def test_a_request_taken_back_whole_keeps_its_place(self):
        self.assertEqual(last(*self.ASKED, ("withdraw", 1, 6), ("request", 0, 0, 1, 0)), [2])
