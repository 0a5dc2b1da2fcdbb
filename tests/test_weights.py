import itertools
import unittest

import helper
from basehouse.houses import Even, House, Listed
from basehouse.nets import Net
from basehouse.weights import heaviest, weight_of
from helper import bases_of, members, ranks_of

LONG = 10**59 + 7


def plain_weight(s, weights):
    total = 0
    for k, weight in enumerate(weights):
        if k in members(s):
            total += weight
    return total


def plain_heaviest(house, weights):
    """The thing that weighs most, of like ones the least, over and over."""
    told = ranks_of(house)
    left = list(range(house.many))
    taken = 0
    while left:
        best = left[0]
        for k in left:
            if weights[k] > weights[best]:
                best = k
        left.remove(best)
        if told[taken + 2**best] > told[taken]:
            taken += 2**best
    return taken


def some_weights(n):
    numbers = helper.strewn(n + 30)
    return [
        [0] * n, [1] * n, [-3] * n, list(range(n)), list(range(n, 0, -1)), list(range(-n, 0)),
        [(-1) ** k * k for k in range(n)], [LONG] * n, [LONG - k for k in range(n)], [k - LONG for k in range(n)],
        [next(numbers) % 3 - 1 for k in range(n)], [next(numbers) % 3 - 1 for k in range(n)],
        [next(numbers) * 10**50 for k in range(n)], [(next(numbers) % 7 - 3) * LONG for k in range(n)],
    ]


class Weights(unittest.TestCase):
    def test_weight_of_by_hand(self):
        self.assertEqual(weight_of(0, []), 0)
        self.assertEqual(weight_of(0, [5, 7]), 0)
        self.assertEqual(weight_of(1, [5, 7]), 5)
        self.assertEqual(weight_of(2, [5, 7]), 7)
        self.assertEqual(weight_of(3, [5, -7]), -2)
        self.assertEqual(weight_of(0b101, [LONG, 1, -LONG]), 0)
        self.assertEqual(weight_of(0b11, [10**60 - 1, 10**60 - 1]), 2 * 10**60 - 2)
        self.assertEqual(weight_of(255, [1, 2, 4, 8, 16, 32, 64, 128]), 255)

    def test_weight_of_every_set(self):
        for n in range(9):
            for weights in some_weights(n):
                for s in range(2**n):
                    found = weight_of(s, weights)
                    self.assertEqual(found, plain_weight(s, weights))
                    self.assertIs(type(found), int)

    def test_heaviest_by_hand(self):
        self.assertEqual(heaviest(Even(0, 0), []), 0)
        self.assertEqual(heaviest(Even(4, 2), [1, 5, 3, 4]), 0b1010)
        self.assertEqual(heaviest(Even(4, 2), [-1, -5, -3, -4]), 0b0101)
        self.assertEqual(heaviest(House(3), [9, 9, 9]), 0)
        self.assertEqual(heaviest(Even(3, 3), [-9, 0, -9]), 7)
        # The two heaviest things hang together, so that the third is taken.
        self.assertEqual(heaviest(Listed(3, [0b101, 0b110]), [8, 9, 1]), 0b110)
        self.assertEqual(heaviest(Net(3, 3, [(0, 1), (1, 0), (1, 2)]), [7, 9, -4]), 0b110)
        self.assertEqual(heaviest(Net(3, 3, [(0, 0), (1, 0), (1, 2)]), [7, 9, -4]), 0b110)

    def test_of_like_weights_the_lesser_thing_first(self):
        for weight in [0, 1, -1, LONG, -LONG]:
            for n in range(9):
                for k in range(n + 1):
                    self.assertEqual(heaviest(Even(n, k), [weight] * n), 2**k - 1)
        self.assertEqual(heaviest(Even(4, 2), [1, 2, 2, 2]), 0b0110)
        self.assertEqual(heaviest(Even(4, 2), [1, 0, 1, 2]), 0b1001)
        self.assertEqual(heaviest(Listed(4, [0b0101, 0b0110, 0b1001, 0b1010]), [3, 3, 3, 3]), 0b0101)
        self.assertEqual(heaviest(Listed(4, [0b0101, 0b0110, 0b1001, 0b1010]), [-3, 0, -3, -3]), 0b0110)

    def test_every_sort_of_house(self):
        for label, house in helper.all_houses():
            bases = bases_of(house)
            for weights in some_weights(house.many)[::1 if house.many < 7 else 3]:
                kept = list(weights)
                found = heaviest(house, weights)
                self.assertEqual(found, plain_heaviest(house, weights), (label, weights))
                self.assertIs(type(found), int)
                self.assertIn(found, bases)
                most = max(plain_weight(base, weights) for base in bases)
                self.assertEqual(weight_of(found, weights), most, (label, weights))
                self.assertEqual(weights, kept)

    def test_all_orders_of_weights(self):
        house = Net(5, 4, [(0, 1), (1, 2), (2, 0), (2, 3), (1, 3)])
        for weights in itertools.product([-1, 0, 2], repeat=5):
            self.assertEqual(heaviest(house, list(weights)), plain_heaviest(house, weights))
        for weights in itertools.permutations(range(-2, 3)):
            self.assertEqual(heaviest(house, list(weights)), plain_heaviest(house, weights))

    def test_the_house_and_the_weights_stay(self):
        house = Listed(4, [3, 5, 6])
        told = ranks_of(house)
        weights = [4, -1, 4, 9]
        for asked in range(2):
            self.assertEqual(heaviest(house, weights), 0b0101)
            self.assertEqual(weight_of(0b1001, weights), 13)
        self.assertEqual(weights, [4, -1, 4, 9])
        self.assertEqual((ranks_of(house), house.many), (told, 4))

    def test_numbers_apart_by_one_in_60_figures(self):
        self.assertEqual(heaviest(Even(3, 1), [LONG, LONG + 1, LONG]), 0b010)
        self.assertEqual(heaviest(Even(3, 1), [-LONG, -LONG - 1, 1 - LONG]), 0b100)


if __name__ == "__main__":
    unittest.main()
