import random
import unittest
from fractions import Fraction

from fundgates.sharing import divide, share


def divide_piece_by_piece(pot, weights):
    """The same rule without rounding down first: every piece goes to the greatest weight / (got + 1)."""
    parts = [0] * len(weights)
    if sum(weights) == 0:
        return parts
    for piece in range(pot):
        claims = [Fraction(weight, part + 1) for weight, part in zip(weights, parts)]
        parts[claims.index(max(claims))] += 1
    return parts


class Divide(unittest.TestCase):
    def test_comes_out_even(self):
        self.assertEqual(divide(5, [10, 10, 5]), [2, 2, 1])

    def test_what_rounding_leaves_goes_piece_by_piece(self):
        self.assertEqual(divide(4, [10, 10, 5]), [2, 2, 0])
        self.assertEqual(divide(9, [54, 36]), [6, 3])

    def test_one_may_get_more_than_one_piece_of_what_is_left(self):
        # Rounded down: 8, 0, 0, 0, 0; 85 / 9 and 85 / 10 are both above 5.
        self.assertEqual(divide(10, [85, 4, 4, 4, 3]), [10, 0, 0, 0, 0])

    def test_of_alike_ones_the_first(self):
        self.assertEqual(divide(1, [7, 7, 7]), [1, 0, 0])
        self.assertEqual(divide(2, [7, 7, 7]), [1, 1, 0])
        self.assertEqual(divide(1, [1, 7, 7]), [0, 1, 0])
        self.assertEqual(divide(2, [2, 1]), [2, 0])
        self.assertEqual(divide(2, [1, 2]), [1, 1])
        self.assertEqual(divide(1, [3, 5, 5, 4]), [0, 1, 0, 0])

    def test_weight_0_gets_nothing(self):
        self.assertEqual(divide(5, [0, 3, 0, 3]), [0, 3, 0, 2])
        self.assertEqual(divide(7, [0, 1]), [0, 7])
        self.assertEqual(divide(1, [0, 0, 1, 0]), [0, 0, 1, 0])

    def test_all_weights_0_give_nothing(self):
        self.assertEqual(divide(5, [0, 0, 0]), [0, 0, 0])
        self.assertEqual(divide(0, [0]), [0])

    def test_pot_of_0(self):
        self.assertEqual(divide(0, [3, 4]), [0, 0])

    def test_pot_beyond_the_weights(self):
        self.assertEqual(divide(10, [1, 2]), [3, 7])

    def test_near_alike_great_weights_are_told_apart(self):
        great = 10 ** 17
        self.assertEqual(divide(1, [great, great + 1]), [0, 1])
        self.assertEqual(divide(1, [great + 1, great]), [1, 0])

    def test_weights_stay_as_they_were(self):
        weights = [10, 10, 5]
        divide(4, weights)
        self.assertEqual(weights, [10, 10, 5])

    def test_as_piece_by_piece(self):
        source = random.Random(1)
        for turn in range(400):
            weights = [source.choice([0, 1, 2, 3, 7, 30, 100]) for k in range(source.randint(1, 20))]
            pot = source.randint(0, 60)
            self.assertEqual(divide(pot, weights), divide_piece_by_piece(pot, weights), (pot, weights))

    def test_fair_whole_and_never_less_of_more(self):
        source = random.Random(2)
        for turn in range(100):
            weights = [source.randint(0, 12) for k in range(20)]
            if sum(weights) == 0:
                continue
            before = [0] * 20
            for pot in range(1, 50):
                parts = divide(pot, weights)
                self.assertEqual(sum(parts), pot)
                self.assertTrue(all(less <= more for less, more in zip(before, parts)))
                for weight in set(weights):
                    alike = [part for part, other in zip(parts, weights) if other == weight]
                    self.assertLessEqual(max(alike) - min(alike), 1)
                before = parts


class Share(unittest.TestCase):
    def test_enough_for_all(self):
        self.assertEqual(share(26, [10, 10, 5]), [10, 10, 5])
        self.assertEqual(share(25, [10, 10, 5]), [10, 10, 5])

    def test_short(self):
        self.assertEqual(share(24, [10, 10, 5]), [10, 10, 4])
        self.assertEqual(share(5, [10, 10, 5]), [2, 2, 1])
        self.assertEqual(share(4, [10, 10, 5]), [2, 2, 0])

    def test_pot_of_0(self):
        self.assertEqual(share(0, [10, 0, 5]), [0, 0, 0])

    def test_nothing_asked(self):
        self.assertEqual(share(0, [0, 0]), [0, 0])
        self.assertEqual(share(9, [0, 0]), [0, 0])

    def test_gives_back_a_list_of_its_own(self):
        asks = [1, 2]
        given = share(9, asks)
        given[0] = 7
        self.assertEqual(asks, [1, 2])

    def test_nobody_gets_more_than_asked(self):
        source = random.Random(3)
        for turn in range(300):
            asks = [source.randint(0, 9) for k in range(source.randint(1, 20))]
            pot = source.randint(0, sum(asks) + 3)
            parts = share(pot, asks)
            self.assertEqual(sum(parts), min(pot, sum(asks)))
            self.assertTrue(all(0 <= part <= asked for part, asked in zip(parts, asks)))
