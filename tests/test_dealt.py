import itertools
import unittest

import helper
from basehouse.dealt import dealt
from basehouse.houses import Even, House, Listed
from basehouse.nets import Net
from basehouse.tables import Tabled
from basehouse.turned import Minor, Other, Side
from helper import members, ranks_of


def plain_most(tellings):
    """The most things that can be dealt, each of them to one house or to none, through all ways."""
    n = len(tellings[0]).bit_length() - 1
    most = 0
    for ways in itertools.product(range(len(tellings) + 1), repeat=n):
        sets = [helper.number(k for k in range(n) if ways[k] == place) for place in range(len(tellings))]
        if all(told[s] == len(members(s)) for told, s in zip(tellings, sets)):
            most = max(most, sum(len(members(s)) for s in sets))
    return most


class Dealt(unittest.TestCase):
    def assertDealt(self, houses, words=""):
        tellings = [ranks_of(house) for house in houses]
        kept = list(houses)
        found = dealt(houses)
        self.assertIs(type(found), tuple, words)
        self.assertEqual(len(found), 2, words)
        sets, bound = found
        self.assertEqual([type(part) for part in found], [list, int], words)
        self.assertEqual([type(s) for s in sets], [int] * len(houses), words)
        e = len(tellings[0]) - 1
        self.assertTrue(all(0 <= s <= e for s in sets + [bound]), words)
        for told, s in zip(tellings, sets):
            self.assertEqual(told[s], len(members(s)), words)
        for one, other in itertools.combinations(sets, 2):
            self.assertEqual(one & other, 0, words)
        many = sum(len(members(s)) for s in sets)
        # No dealing is greater than this sum, whatever the set, so that it also shows the dealing a greatest one.
        self.assertEqual(many, len(members(e - bound)) + sum(told[bound] for told in tellings), words)
        if e < 32 or len(houses) < 2:
            self.assertEqual(many, plain_most(tellings), words)
        self.assertEqual(len(houses), len(kept))
        self.assertTrue(all(one is other for one, other in zip(houses, kept)))
        self.assertEqual([ranks_of(house) for house in houses], tellings, words)
        return many

    def test_by_hand(self):
        self.assertEqual(dealt([House(0)]), ([0], 0))
        self.assertEqual(dealt([Even(0, 0), House(0), House(0), House(0)]), ([0, 0, 0, 0], 0))
        self.assertEqual(dealt([Even(3, 3)])[0], [7])
        self.assertEqual(dealt([House(3), Even(3, 3)])[0], [0, 7])
        self.assertEqual(dealt([Even(3, 3), House(3)])[0], [7, 0])
        self.assertEqual(dealt([House(3), House(3)]), ([0, 0], 7))
        self.assertEqual(dealt([Listed(3, [1]), Listed(3, [2]), Listed(3, [4])])[0], [1, 2, 4])
        self.assertEqual(dealt([Listed(3, [4]), Listed(3, [1]), Listed(3, [2])])[0], [4, 1, 2])
        self.assertEqual(dealt([Listed(3, [1, 2]), Listed(3, [1])])[0], [2, 1])
        self.assertEqual(self.assertDealt([Even(8, 2)] * 4), 8)
        self.assertEqual(self.assertDealt([Even(8, 1)] * 4), 4)
        self.assertEqual(self.assertDealt([Even(8, 3), Even(8, 4)]), 7)
        self.assertEqual(self.assertDealt([Even(8, 3), Even(8, 4), Even(8, 5)]), 8)

    def test_one_house(self):
        for label, house in helper.all_houses():
            self.assertEqual(self.assertDealt([house], label), house.rank(2**house.many - 1), label)

    def test_one_house_twice_and_more(self):
        for label, house in helper.all_houses()[::3]:
            most = [self.assertDealt([house] * many, label) for many in (2, 3, 4)]
            self.assertEqual(most, sorted(most))

    def test_every_sort(self):
        for houses in helper.by_many(helper.all_houses()):
            some = [house for label, house in houses]
            for place in range(0, len(some), 2):
                turned = some[place:] + some[:place]
                for many in (2, 3, 4):
                    self.assertDealt(turned[:many], (houses[place][0], many))
                self.assertDealt([turned[0], turned[5], turned[0]], houses[place][0])

    def test_sorts_beside_sorts(self):
        n = 6
        some = [
            House(n), Even(n, 2), Listed(n, helper.subsets(n, 3)),
            Tabled(n, 2, [[1, 1, 0, 1, 0, 1], [0, 1, 1, 0, 0, 1]]), Tabled(n, 0, [[1, 2, 0, 1, 5, 1]]),
            Net(n, 4, [(0, 1), (1, 2), (2, 0), (0, 3), (3, 3), (0, 1)]),
            Other(Even(n, 4)), Minor(Even(8, 4), 1, 2), Side(Even(2, 1), House(4)),
        ]
        for one, other in itertools.product(some, some):
            self.assertDealt([one, other])
            self.assertDealt([one, other, one, some[3]])

    def test_up_to_six_deep(self):
        plain = helper.by_many(helper.all_houses())
        for n, houses in enumerate(helper.by_many(helper.deep_houses())):
            for place, (label, house) in enumerate(houses):
                self.assertDealt([house], label)
                self.assertDealt([house, houses[place - 1][1]], label)
                self.assertDealt([plain[n][place][1], house, house, plain[n][-1][1]], label)

    def test_all_houses_of_few_things(self):
        for n in range(4):
            houses = [Listed(n, bases) for bases in helper.lists_of_sets(n) if helper.plain_bases(n, bases) is None]
            self.assertEqual(len(houses), helper.HOUSES[n])
            for one, other in itertools.product(houses, houses):
                self.assertDealt([one, other])
        for three in itertools.product(houses[::3], repeat=3):
            self.assertDealt(list(three))

    def test_as_many_whatever_the_order(self):
        some = [Even(7, 1), Net(7, 4, [(0, 1), (1, 2), (2, 0), (0, 3), (3, 3), (0, 1), (2, 3)]), Listed(7, [3, 5, 6])]
        most = {self.assertDealt(list(order)) for order in itertools.permutations(some)}
        self.assertEqual(len(most), 1)

    def test_two_trees_of_a_net(self):
        # Each tie of four points comes into one of two trees; with a tie less it can't.
        ties = [(0, 1), (0, 2), (0, 3), (1, 2), (1, 3), (2, 3)]
        self.assertEqual(self.assertDealt([Net(6, 4, ties)] * 2), 6)
        self.assertEqual(self.assertDealt([Net(5, 4, ties[:5])] * 2), 5)
        self.assertEqual(self.assertDealt([Net(6, 3, [(0, 1)] * 5 + [(1, 2)])] * 2), 3)

    def test_the_told_list_is_the_askers_own(self):
        houses = [Even(4, 1), Even(4, 2)]
        sets, bound = dealt(houses)
        kept = list(sets)
        again = dealt(houses)
        again[0][0] = 99
        again[0].append(98)
        houses.append(Even(4, 4))
        self.assertEqual(sets, kept)
        sets.clear()
        houses.pop()
        self.assertEqual(len(dealt(houses)[0]), 2)
        self.assertEqual(self.assertDealt(houses), 3)


if __name__ == "__main__":
    unittest.main()
