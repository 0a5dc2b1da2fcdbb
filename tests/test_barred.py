import itertools
import unittest

import helper
from basehouse.barred import kind_of
from basehouse.houses import Even, House, Listed
from basehouse.nets import Net
from basehouse.tables import Tabled
from basehouse.turned import Minor, Other, Side
from helper import SEVEN, bases_of, called, number, plain_kind, ranks_of, subsets

TABLE = [[1, 0, 0, 1, 1, 0, 1], [0, 1, 0, 1, 0, 1, 1], [0, 0, 1, 0, 1, 1, 1]]
OTHER_TABLE = [[1, 1, 0, 1, 0, 0, 0], [1, 0, 1, 0, 1, 0, 0], [0, 1, 1, 0, 0, 1, 0], [1, 1, 1, 0, 0, 0, 1]]


def without(sets, shut):
    return [s for s in sets if s not in shut]


class Barred(unittest.TestCase):
    def assertKind(self, house, kind, words=""):
        told = ranks_of(house)
        for asked in range(2):
            self.assertEqual(kind_of(house), kind, words)
        self.assertEqual(ranks_of(house), told)

    def test_even_houses(self):
        kinds = {(4, 2): "two of four", (5, 2): "two of five", (5, 3): "three of five"}
        for n in range(9):
            for k in range(n + 1):
                self.assertKind(Even(n, k), kinds.get((n, k)), (n, k))
                self.assertKind(Listed(n, subsets(n, k)), kinds.get((n, k)), (n, k))

    def test_seven_whatever_the_things_are_called(self):
        self.assertEqual(len(helper.SEVENS), 30)
        for bases in helper.all_sevens():
            self.assertKind(Listed(7, bases), "seven")
            self.assertKind(Listed(7, bases[::-1]), "seven")
            self.assertKind(Listed(7, [127 - base for base in bases]), "other seven")
            self.assertKind(Other(Listed(7, bases)), "other seven")
            self.assertKind(Other(Other(Listed(7, bases))), "seven")

    def test_tables(self):
        for names in itertools.islice(itertools.permutations(range(7)), 0, 5040, 401):
            table = [[row[name] for name in names] for row in TABLE]
            other = [[row[name] for name in names] for row in OTHER_TABLE]
            self.assertKind(Tabled(7, 2, table), "seven")
            self.assertKind(Other(Tabled(7, 2, other)), "seven")
            self.assertKind(Tabled(7, 2, other), "other seven")
            self.assertKind(Other(Tabled(7, 2, table)), "other seven")
            for prime in [0, 3, 97]:
                self.assertKind(Tabled(7, prime, table), None)
                self.assertKind(Tabled(7, prime, other), None)
        self.assertKind(Tabled(7, 2, [[3 * x - 2 * 10**59 for x in row] for row in TABLE]), "seven")
        self.assertKind(Tabled(4, 3, [[1, 0, 1, 1], [0, 1, 1, 2]]), "two of four")
        self.assertKind(Tabled(4, 0, [[1, 0, 1, 1], [0, 1, 1, 2], [0, 2, 2, 4]]), "two of four")
        self.assertKind(Tabled(4, 2, [[1, 0, 1, 1], [0, 1, 1, 2]]), None)
        self.assertKind(Tabled(5, 5, [[1, 1, 1, 1, 1], [0, 1, 2, 3, 4]]), "two of five")
        self.assertKind(Tabled(5, 3, [[1, 1, 1, 1, 1], [0, 1, 2, 3, 4]]), None)
        self.assertKind(Tabled(5, 0, [[k**power for k in range(5)] for power in range(3)]), "three of five")
        self.assertKind(Tabled(5, 5, [[k**power for k in range(5)] for power in range(3)]), "three of five")

    def test_nets(self):
        for label, house in helper.all_houses():
            if isinstance(house, Net):
                self.assertKind(house, None, label)
                self.assertKind(Other(house), None, label)
        self.assertKind(Net(4, 3, [(0, 1), (1, 2), (2, 0), (0, 1)]), None)
        self.assertKind(Net(5, 5, [(0, 1), (1, 2), (2, 3), (3, 4), (4, 0)]), None)

    def test_nearly_an_even_one(self):
        for n, k in [(4, 2), (5, 2), (5, 3)]:
            for less in helper.with_one_less(subsets(n, k)):
                self.assertKind(Listed(n, less), None)
                self.assertKind(Other(Listed(n, less)), None)

    def test_nearly_a_seven(self):
        for more in helper.with_one_more(7, SEVEN):
            if helper.plain_bases(7, more) is None:
                self.assertEqual(len(more), 29)
                self.assertKind(Listed(7, more), None)
                self.assertKind(Other(Listed(7, more)), None)
        less = [bases for bases in helper.with_one_less(SEVEN) if helper.plain_bases(7, bases) is None]
        self.assertEqual(less, [])

    def test_seven_sets_of_three_that_are_no_bases_but_no_seven(self):
        alike = [number([0, 1, k]) for k in range(2, 7)] + [number([2, 3, 4]), number([2, 5, 6])]
        long_line = subsets(4, 3) + [number([0, 4, 5]), number([1, 4, 6]), number([2, 5, 6])]
        for shut in [alike, long_line]:
            bases = without(subsets(7, 3), shut)
            self.assertEqual((len(bases), helper.plain_bases(7, bases)), (28, None))
            self.assertKind(Listed(7, bases), None)
            self.assertKind(Other(Listed(7, bases)), None)

    def test_each_two_things_in_just_one_ring_of_three_among_more(self):
        # Eight things, and whole rank 2 and 4 with seven: not by the sets of three alone.
        self.assertKind(Even(7, 2), None)
        self.assertKind(Listed(7, without(subsets(7, 4), [number([0, 1, 2, 3])])), None)
        self.assertKind(Side(Listed(7, SEVEN), House(1)), None)
        self.assertKind(Side(Even(1, 1), Listed(7, SEVEN)), None)

    def test_six_things(self):
        for k in range(7):
            self.assertKind(Even(6, k), None)
        for thing in range(7):
            self.assertKind(Minor(Listed(7, SEVEN), 2**thing, 0), None)
            self.assertKind(Minor(Listed(7, SEVEN), 0, 2**thing), None)
            self.assertKind(Minor(Other(Listed(7, SEVEN)), 2**thing, 0), None)

    def test_one_thing_more(self):
        barred = [Even(4, 2), Even(5, 2), Even(5, 3), Listed(7, SEVEN), Other(Listed(7, SEVEN))]
        for house in barred:
            kind = kind_of(house)
            for one in [House(1), Even(1, 1)]:
                self.assertKind(Side(house, one), None)
                self.assertKind(Side(one, house), None)
                self.assertKind(Minor(Side(house, one), 2**house.many, 0), kind)
                self.assertKind(Minor(Side(one, house), 0, 1), kind)

    def test_things_of_rank_0_in_place_of_others(self):
        self.assertKind(Side(Even(3, 2), House(1)), None)
        self.assertKind(Side(Even(4, 2), House(1)), None)
        self.assertKind(Side(House(1), Even(4, 3)), None)
        self.assertKind(Side(Even(6, 3), House(1)), None)
        self.assertKind(House(4), None)
        self.assertKind(House(7), None)

    def test_called_in_another_order(self):
        near = sorted(SEVEN + [number(helper.LINES[0])])
        for names in itertools.islice(itertools.permutations(range(7)), 0, 5040, 211):
            self.assertKind(Listed(7, called(SEVEN, names)), "seven")
            self.assertKind(Listed(7, called(near, names)), None)

    def test_every_house_of_few_things(self):
        for n in range(6):
            houses = helper.small_houses(n)
            self.assertEqual(len(houses), helper.HOUSES[n])
            for house in houses:
                self.assertEqual(kind_of(house), plain_kind(n, bases_of(house)))

    def test_every_sort(self):
        for label, house in helper.all_houses() + helper.deep_houses():
            self.assertKind(house, plain_kind(house.many, bases_of(house)), label)

    def test_few_sets_that_are_no_bases(self):
        for seed in range(20):
            for n, rank in [(4, 2), (5, 2), (5, 3), (6, 3), (7, 3), (7, 4), (8, 4)]:
                house = helper.paved(n, rank, seed)
                self.assertKind(house, plain_kind(n, bases_of(house)), (n, rank, seed))

    def test_the_kind_is_a_text_or_none(self):
        self.assertIs(type(kind_of(Even(4, 2))), str)
        self.assertIsNone(kind_of(Even(4, 1)))


if __name__ == "__main__":
    unittest.main()
