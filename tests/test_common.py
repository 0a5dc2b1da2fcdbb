import itertools
import unittest

import helper
from basehouse.common import common
from basehouse.houses import Even, House, Listed
from basehouse.nets import Net
from basehouse.tables import Tabled
from basehouse.turned import Minor, Other, Side
from helper import members, ranks_of


def plain_most(first, second):
    """The most things of a set that is free in both, through all sets."""
    return max(len(members(s)) for s in range(len(first)) if first[s] == second[s] == len(members(s)))


class Common(unittest.TestCase):
    def assertCommon(self, one, other, words=""):
        first, second = ranks_of(one), ranks_of(other)
        found = common(one, other)
        self.assertIs(type(found), tuple, words)
        self.assertEqual([type(part) for part in found], [int, int], words)
        s, bound = found
        e = len(first) - 1
        self.assertTrue(0 <= s <= e and 0 <= bound <= e, words)
        self.assertEqual(first[s], len(members(s)), words)
        self.assertEqual(second[s], len(members(s)), words)
        self.assertEqual(len(members(s)), first[bound] + second[e - bound], words)
        self.assertEqual(len(members(s)), plain_most(first, second), words)
        self.assertEqual((ranks_of(one), ranks_of(other)), (first, second), words)
        self.assertEqual((one.many, other.many), (e.bit_length(), e.bit_length()), words)
        return len(members(s))

    def test_by_hand(self):
        self.assertEqual(self.assertCommon(House(0), Even(0, 0)), 0)
        self.assertEqual(self.assertCommon(House(3), Even(3, 3)), 0)
        self.assertEqual(self.assertCommon(Even(5, 2), Even(5, 4)), 2)
        self.assertEqual(self.assertCommon(Even(8, 8), Even(8, 8)), 8)
        # Just one of things 0, 1 and one of 2, 3; and just one of 0, 2 and one of 1, 3.
        rows, lines = Listed(4, [5, 9, 6, 10]), Listed(4, [3, 9, 6, 12])
        self.assertEqual(self.assertCommon(rows, lines), 2)
        self.assertEqual(common(rows, lines)[0] in (9, 6), True)
        # Both want one thing of the same three.
        self.assertEqual(self.assertCommon(Listed(4, [1, 2, 4]), Listed(4, [9, 10, 12])), 1)
        self.assertEqual(self.assertCommon(Listed(2, [1]), Listed(2, [2])), 0)
        self.assertEqual(common(Even(1, 1), Even(1, 1))[0], 1)

    def test_the_bound_is_the_first_house_s(self):
        # The first house has rank 1 at most, the second one has rank 2: only everything is a bound.
        self.assertEqual(common(Even(3, 1), Even(3, 2)), (common(Even(3, 1), Even(3, 2))[0], 7))
        self.assertEqual(common(Even(3, 2), Even(3, 1))[1], 0)
        self.assertEqual(common(Listed(4, [3]), Listed(4, [0b1101, 0b1110]))[1] & 0b1100, 0b1100)

    def test_a_house_with_itself(self):
        for label, house in helper.all_houses():
            self.assertEqual(self.assertCommon(house, house, label), house.rank(2**house.many - 1))

    def test_every_sort_both_ways_round(self):
        for houses in helper.by_many(helper.all_houses()):
            for step in [1, 7]:
                for place, (label, one) in enumerate(houses):
                    other_label, other = houses[(place + step) % len(houses)]
                    most = self.assertCommon(one, other, (label, other_label))
                    self.assertEqual(self.assertCommon(other, one, (other_label, label)), most)

    def test_sorts_against_sorts(self):
        makers = [
            lambda n: House(n), lambda n: Even(n, n // 2), lambda n: Listed(n, helper.subsets(n, (n + 1) // 2)),
            lambda n: Tabled(n, 3, [[(k * k + j) % 3 for k in range(n)] for j in range(3)]),
            lambda n: Tabled(n, 0, [[k ** j for k in range(n)] for j in range(4)]),
            lambda n: Net(n, 5, [(k % 5, (k * k + 1) % 5) for k in range(n)]),
            lambda n: Other(Net(n, 4, [(k % 4, k // 3) for k in range(n)])),
            lambda n: Minor(Even(n, n // 2), 0, 0),
            lambda n: Side(Even(n // 2, n // 4), Even(n - n // 2, 1 if n else 0)),
        ]
        for n in [0, 1, 4, 6, 8]:
            for one, other in itertools.product(makers, makers):
                self.assertCommon(one(n), other(n), n)

    def test_up_to_six_deep(self):
        plain = helper.by_many(helper.all_houses())
        for n, houses in enumerate(helper.by_many(helper.deep_houses())):
            for place, (label, one) in enumerate(houses):
                for other_label, other in [houses[place - 1], plain[n][place]]:
                    self.assertCommon(one, other, (label, other_label))
                    self.assertCommon(other, one, (other_label, label))

    def test_all_houses_of_three_things(self):
        houses = [Listed(3, bases) for bases in helper.lists_of_sets(3) if helper.plain_bases(3, bases) is None]
        self.assertEqual(len(houses), helper.HOUSES[3])
        for one, other in itertools.product(houses, houses):
            self.assertCommon(one, other)

    def test_a_house_and_its_other_house(self):
        # Two bases without a thing in common are just what is free in both.
        for n in range(9):
            for k in range(n + 1):
                self.assertEqual(self.assertCommon(Even(n, k), Other(Even(n, k))), min(k, n - k))

    def test_a_greatest_matching(self):
        # Thing k joins row k // 3 and line k % 3 of some squares of a board.
        squares = [(0, 0), (0, 1), (1, 0), (2, 0), (2, 2), (1, 0), (2, 1)]
        rows = Tabled(7, 2, [[1 if square[0] == row else 0 for square in squares] for row in range(3)])
        lines = Tabled(7, 2, [[1 if square[1] == line else 0 for square in squares] for line in range(3)])
        self.assertEqual(self.assertCommon(rows, lines), 3)
        self.assertEqual(self.assertCommon(Minor(rows, 0b1010010, 0), Minor(lines, 0b1010010, 0)), 1)

    def test_asked_again(self):
        one, other = Net(6, 4, [(0, 1), (0, 2), (0, 3), (1, 2), (1, 3), (2, 3)]), Listed(6, [7, 11, 13, 14])
        sizes = [self.assertCommon(one, other) for asked in range(3)]
        self.assertEqual(sizes, [3, 3, 3])


if __name__ == "__main__":
    unittest.main()
