"""The call share."""

import random

from tests.helper import BILLION, FAR, CallCase, ask, last
from tests.test_sharing import divide_piece_by_piece

USED = (
    ("class", 0, 1000000, 0), ("create", 0, 3, 40), ("stock", 0, 1, 9), ("request", 0, 3, 7, 1), ("pocket", 0),
    ("point", [2, 0, 0, 0]), ("release", 0, 10))


class Share(CallCase):
    def test_the_documents_examples(self):
        self.assert_told((), ("share", 5, [10, 10, 5]), [0, 2, 2, 1])
        self.assert_told((), ("share", 4, [10, 10, 5]), [0, 2, 2, 0])
        self.assert_told((), ("share", 9, [54, 36]), [0, 6, 3])

    def test_whatever_is_there(self):
        self.assert_told(USED, ("share", 4, [10, 10, 5]), [0, 2, 2, 0])

    def test_just_enough_and_one_short(self):
        self.assert_told((), ("share", 25, [10, 10, 5]), [0, 10, 10, 5])
        # 9.6, 9.6, 4.8: 10 / 10 = 1, 10 / 10 = 1, 5 / 5 = 1: two pieces more, the first and the second.
        self.assert_told((), ("share", 24, [10, 10, 5]), [0, 10, 10, 4])
        self.assert_told((), ("share", 1, [1]), [0, 1])
        self.assert_told((), ("share", 0, [1]), [0, 0])

    def test_more_than_enough(self):
        self.assert_told((), ("share", 26, [10, 10, 5]), [0, 10, 10, 5])
        self.assert_told((), ("share", BILLION, [10, 0, 5]), [0, 10, 0, 5])

    def test_pot_of_0(self):
        self.assert_told((), ("share", 0, [10, 10, 5]), [0, 0, 0, 0])
        self.assert_told((), ("share", 0, [0, 3]), [0, 0, 0])
        self.assert_told((), ("share", 0, [0]), [0, 0])

    def test_asks_of_0(self):
        self.assert_told((), ("share", 5, [0, 6, 0, 6]), [0, 0, 3, 0, 2])
        self.assert_told((), ("share", 1, [0, 0, 2]), [0, 0, 0, 1])

    def test_all_asks_0(self):
        self.assert_told((), ("share", 5, [0]), [0, 0])
        self.assert_told((), ("share", 5, [0] * 20), [0] * 21)
        self.assert_told((), ("share", 0, [0, 0, 0]), [0] * 4)

    def test_counts_of_asks(self):
        self.assert_refused((), ("share", 5, []), -1)
        self.assert_told((), ("share", 5, [9]), [0, 5])
        self.assert_told((), ("share", 5, [9] * 20), [0] + [1] * 5 + [0] * 15)
        self.assert_told((), ("share", 43, [9] * 20), [0] + [3] * 3 + [2] * 17)
        self.assert_refused((), ("share", 5, [9] * 21), -1)
        self.assert_refused((), ("share", 5, [0] * 21), -1)
        self.assert_refused((), ("share", 5, [9] * 100), -1)

    def test_edges_of_the_pot(self):
        self.assert_told((), ("share", BILLION, [BILLION, BILLION]), [0, BILLION // 2, BILLION // 2])
        self.assert_told((), ("share", BILLION, [BILLION]), [0, BILLION])
        for pot in (-1, BILLION + 1, FAR, -FAR):
            self.assert_refused(USED, ("share", pot, [1, 2]), -1)

    def test_edges_of_an_ask(self):
        self.assert_told((), ("share", 7, [0, BILLION]), [0, 0, 7])
        for asked in (-1, BILLION + 1, FAR, -FAR):
            for asks in ([asked], [asked, 1, 1], [1, asked, 1], [1, 1, asked]):
                self.assert_refused(USED, ("share", 5, asks), -1)

    def test_several_out_of_range(self):
        self.assert_refused((), ("share", -1, []), -1)
        self.assert_refused((), ("share", FAR, [-FAR] * 100), -1)

    def test_greatest_numbers(self):
        # 10^9 by twenty of 10^9: each gets 5 x 10^7.
        self.assert_told((), ("share", BILLION, [BILLION] * 20), [0] + [BILLION // 20] * 20)
        self.assert_told((), ("share", BILLION - 1, [BILLION] * 20), [0] + [BILLION // 20] * 19 + [BILLION // 20 - 1])
        # 333333333.0 .. each; of the one piece left the greater ask has its turn.
        self.assert_told(
            (), ("share", BILLION, [BILLION - 1, BILLION, BILLION - 1]), [0, 333333333, 333333334, 333333333])

    def test_what_stands_behind_a_row_is_read_rightly(self):
        self.assertEqual(
            ask(("share", 1, []), ("fund", 7), ("share", 3, [9] * 100), ("fund", 8), ("share", 3, [2]), ("fund", 9)),
            [[-1], [1000000], [-1], [7], [0, 2], [8]])

    def test_as_piece_by_piece(self):
        source = random.Random(4)
        for turn in range(200):
            asks = [source.choice([0, 1, 2, 3, 7, 30, 100]) for k in range(source.randint(1, 20))]
            pot = source.randint(0, 60)
            wanted = asks if sum(asks) <= pot else divide_piece_by_piece(pot, asks)
            self.assertEqual(last(("share", pot, asks)), [0] + wanted, (pot, asks))

    def test_a_wider_gate_gives_nobody_less_and_alike_ones_differ_by_one_at_most(self):
        asks = [9, 4, 9, 0, 1, 4, 17, 9]
        given = ask(*[("share", pot, asks) for pot in range(sum(asks) + 2)])
        for narrow, wide in zip(given, given[1:]):
            self.assertTrue(all(less <= more for less, more in zip(narrow, wide)), (narrow, wide))
        for pot, (first, *parts) in enumerate(given):
            self.assertEqual((first, sum(parts)), (0, min(pot, sum(asks))))
            self.assertLessEqual(max(parts[0], parts[2], parts[7]) - min(parts[0], parts[2], parts[7]), 1)
            self.assertLessEqual(abs(parts[1] - parts[5]), 1)
