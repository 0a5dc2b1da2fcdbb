import itertools
import unittest

import helper
from basehouse.houses import Even, House, Listed
from helper import members, number, ranks_of, subsets


class Houses(unittest.TestCase):
    def assertHouse(self, house, n, told):
        """Its many, its everything and all its ranks, twice."""
        self.assertIsInstance(house, House)
        for asked in range(2):
            self.assertEqual(house.many, n)
            self.assertIs(type(house.many), int)
            self.assertEqual(house.everything(), 2**n - 1)
            self.assertIs(type(house.everything()), int)
            self.assertEqual(ranks_of(house), told)
            self.assertEqual({type(rank) for rank in ranks_of(house)}, {int})

    def test_house(self):
        for n in range(9):
            self.assertHouse(House(n), n, [0] * 2**n)

    def test_even(self):
        for n in range(9):
            for k in range(n + 1):
                self.assertHouse(Even(n, k), n, [min(len(members(s)), k) for s in range(2**n)])

    def test_even_by_hand(self):
        self.assertEqual(ranks_of(Even(0, 0)), [0])
        self.assertEqual(ranks_of(Even(2, 0)), [0, 0, 0, 0])
        self.assertEqual(ranks_of(Even(2, 1)), [0, 1, 1, 1])
        self.assertEqual(ranks_of(Even(2, 2)), [0, 1, 1, 2])
        self.assertEqual(Even(8, 5).rank(255), 5)
        self.assertEqual(Even(8, 5).rank(0b11110000), 4)

    def test_listed_by_hand(self):
        self.assertHouse(Listed(3, [3, 5]), 3, [0, 1, 1, 2, 1, 2, 1, 2])
        self.assertHouse(Listed(2, [0]), 2, [0, 0, 0, 0])
        self.assertHouse(Listed(2, [2]), 2, [0, 0, 1, 1])
        # These are the bases of no house; the ranks are told all the same.
        self.assertHouse(Listed(3, [1, 6]), 3, [0, 1, 1, 1, 1, 1, 2, 2])
        self.assertHouse(Listed(4, [3, 12]), 4, [0, 1, 1, 2, 1, 1, 1, 2, 1, 1, 1, 2, 2, 2, 2, 2])

    def test_the_empty_set_alone(self):
        for n in range(9):
            self.assertHouse(Listed(n, [0]), n, [0] * 2**n)
            self.assertHouse(Listed(n, [0, 0]), n, [0] * 2**n)

    def test_everything_alone(self):
        for n in range(9):
            self.assertHouse(Listed(n, [2**n - 1]), n, [len(members(s)) for s in range(2**n)])

    def test_the_bases_of_houses(self):
        for n, bases in helper.some_bases():
            self.assertHouse(Listed(n, bases), n, [helper.rank_by(bases, s) for s in range(2**n)])

    def test_any_sets(self):
        for n in range(7):
            for sets in helper.strewn_lists(n, 6, n + 1):
                if sets:
                    self.assertHouse(Listed(n, sets), n, [helper.rank_by(sets, s) for s in range(2**n)])

    def test_any_order(self):
        for order in itertools.permutations([3, 5, 24, 0]):
            self.assertHouse(Listed(5, list(order)), 5, [helper.rank_by([3, 5, 24], s) for s in range(32)])

    def test_a_set_that_comes_twice(self):
        told = ranks_of(Listed(4, [3, 5, 6]))
        self.assertEqual(ranks_of(Listed(4, [5, 3, 5, 6, 3, 3])), told)
        self.assertEqual(ranks_of(Listed(4, [6, 6, 5, 5, 3, 3] * 20)), told)
        self.assertEqual(ranks_of(Listed(4, [9, 9])), ranks_of(Listed(4, [9])))

    def test_all_sets_of_k_things_are_even(self):
        for n in range(9):
            for k in range(n + 1):
                self.assertEqual(ranks_of(Listed(n, subsets(n, k))), ranks_of(Even(n, k)))


class KeptApart(unittest.TestCase):
    def test_the_list_handed_in_stays_as_it_was(self):
        some = [6, 3, 6, 5]
        house = Listed(3, some)
        ranks_of(house)
        self.assertEqual(some, [6, 3, 6, 5])

    def test_the_list_changed_behind_the_call_changes_no_rank(self):
        some = [3, 5]
        house = Listed(3, some)
        told = [0, 1, 1, 2, 1, 2, 1, 2]
        for change in [lambda: some.append(7), lambda: some.reverse(), lambda: some.pop(), lambda: some.clear()]:
            change()
            self.assertEqual(ranks_of(house), told)

    def test_a_list_changed_between_two_houses(self):
        some = [3]
        first = Listed(3, some)
        some[0] = 7
        second = Listed(3, some)
        self.assertEqual((first.rank(7), second.rank(7)), (2, 3))

    def test_another_house_made_between_changes_nothing(self):
        makers = [
            lambda: House(5), lambda: Even(5, 2), lambda: Even(3, 3),
            lambda: Listed(5, [7, 28]), lambda: Listed(3, [0]),
        ]
        for maker, other in itertools.product(makers, makers):
            house = maker()
            told = ranks_of(house)
            ranks_of(other())
            self.assertEqual(ranks_of(house), told)
            self.assertEqual(house.everything(), number(range(house.many)))
            self.assertEqual(ranks_of(maker()), told)


if __name__ == "__main__":
    unittest.main()
