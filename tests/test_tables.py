import itertools
import unittest

import helper
from basehouse.houses import House
from basehouse.pivots import rank_of
from basehouse.tables import Tabled
from helper import members, ranks_of

LONG = 10**59 + 7


def apart(columns, prime):
    """Whether no sum of multiples comes to noughts: by the columns one after the other."""
    for multiples in itertools.product(range(prime), repeat=len(columns)):
        sums = [sum(m * number for m, number in zip(multiples, row)) % prime for row in zip(*columns)]
        if any(multiples) and not any(sums):
            return False
    return True


def plain_rank(rows, s, prime):
    columns = [[row[k] for row in rows] for k in members(s)]
    some = [part for k in range(len(columns) + 1) for part in itertools.combinations(columns, k)]
    return max(len(part) for part in some if apart(part, prime))


class Tables(unittest.TestCase):
    def assertHouse(self, house, n, told):
        self.assertIsInstance(house, House)
        self.assertEqual(house.many, n)
        self.assertEqual(house.everything(), 2**n - 1)
        for asked in range(2):
            self.assertEqual(ranks_of(house), told)
            self.assertEqual({type(rank) for rank in ranks_of(house)}, {int})

    def test_by_hand(self):
        rows = [[1, 0, 1, 0], [0, 1, 1, 0]]
        told = [0, 1, 1, 2, 1, 2, 2, 2] * 2
        for prime in [0] + helper.PRIMES:
            self.assertHouse(Tabled(4, prime, rows), 4, told)

    def test_no_rows(self):
        for prime in [0] + helper.PRIMES:
            for n in range(9):
                self.assertEqual(Tabled(n, prime, []).many, n)
                self.assertEqual(Tabled(n, prime, []).rank(2**n - 1), 0)
        self.assertHouse(Tabled(8, 2, []), 8, [0] * 256)

    def test_no_things(self):
        for prime in [0] + helper.PRIMES:
            for rows in range(9):
                self.assertHouse(Tabled(0, prime, [[] for row in range(rows)]), 0, [0])

    def test_noughts(self):
        self.assertHouse(Tabled(5, 0, [[0] * 5] * 8), 5, [0] * 32)
        self.assertHouse(Tabled(5, 7, [[0, 7, -7, 49, 7 * LONG]] * 8), 5, [0] * 32)

    def test_as_the_point_tells_it(self):
        numbers = helper.strewn(5)
        for prime, n, rows in [(2, 5, 3), (2, 4, 4), (3, 4, 2), (3, 4, 3), (5, 3, 2), (5, 3, 3), (7, 3, 3)]:
            for turn in range(4):
                table = [[next(numbers) % 13 - 6 for k in range(n)] for row in range(rows)]
                self.assertHouse(Tabled(n, prime, table), n, [plain_rank(table, s, prime) for s in range(2**n)])

    def test_the_rank_of_a_set_is_that_of_its_columns(self):
        numbers = helper.strewn(6)
        for prime in [0] + helper.PRIMES:
            table = [[next(numbers) % 9 - 4 for k in range(5)] for row in range(4)]
            told = [rank_of([[row[k] for k in members(s)] for row in table], prime) for s in range(32)]
            self.assertHouse(Tabled(5, prime, table), 5, told)

    def test_eight_things_and_eight_rows(self):
        numbers = helper.strewn(7)
        for prime in [0, 2, 89]:
            table = [[(next(numbers) % 3 - 1) * LONG + next(numbers) % 2 for k in range(8)] for row in range(8)]
            told = [rank_of([[row[k] for k in members(s)] for row in table], prime) for s in range(256)]
            self.assertHouse(Tabled(8, prime, table), 8, told)

    def test_each_thing_is_its_column(self):
        for k in range(8):
            rows = [[1 if column == k else 0 for column in range(8)]]
            self.assertHouse(Tabled(8, 0, rows), 8, [1 if k in members(s) else 0 for s in range(256)])

    def test_numbers_of_60_figures_and_below_nought(self):
        rows = [[LONG, -LONG, 2 * LONG, 1], [-LONG, LONG, -2 * LONG, -1]]
        self.assertHouse(Tabled(4, 0, rows), 4, [0] + [1] * 15)
        rows = [[LONG, -LONG, LONG, 1], [LONG, LONG, LONG, -1]]
        told = [0, 1, 1, 2, 1, 1, 2, 2, 1, 2, 1, 2, 2, 2, 2, 2]
        self.assertHouse(Tabled(4, 0, rows), 4, told)
        self.assertHouse(Tabled(4, 2, rows), 4, [0] + [1] * 15)

    def test_sums_of_multiples_add_nothing(self):
        rows = [[1, 2, -3, 4], [0, 5, 6, -7]]
        more = [[a - 2 * b for a, b in zip(rows[0], rows[1])], [3 * a for a in rows[0]], [0, 0, 0, 0]]
        for prime in [0] + helper.PRIMES:
            self.assertEqual(ranks_of(Tabled(4, prime, rows + more)), ranks_of(Tabled(4, prime, rows)))

    def test_unlike_primes_unlike_ranks(self):
        for prime in helper.PRIMES:
            rows = [[1, 1, 0], [1, 1 + prime, 0]]
            for other in [0] + helper.PRIMES:
                both = 1 if other == prime else 2
                self.assertEqual(ranks_of(Tabled(3, other, rows)), [0, 1, 1, both] * 2)
        # The seven of three rows: over 2 its lines hang together, over others one of them does not.
        rows = [[1, 0, 0, 1, 1, 0, 1], [0, 1, 0, 1, 0, 1, 1], [0, 0, 1, 0, 1, 1, 1]]
        slant = 0b0111000
        for prime in [0] + helper.PRIMES:
            self.assertEqual(Tabled(7, prime, rows).rank(slant), 2 if prime == 2 else 3)


class KeptApart(unittest.TestCase):
    def test_the_table_handed_in_stays_as_it_was(self):
        for prime in [0, 2, 97]:
            rows = [[5, -7, LONG], [3, 4, 0]]
            ranks_of(Tabled(3, prime, rows))
            self.assertEqual(rows, [[5, -7, LONG], [3, 4, 0]])

    def test_the_table_changed_behind_the_call_changes_no_rank(self):
        for prime in [0, 2, 97]:
            rows = [[1, 0, 1], [0, 1, 1]]
            house = Tabled(3, prime, rows)
            told = [0, 1, 1, 2, 1, 2, 2, 2]
            changes = [
                lambda: rows[0].__setitem__(0, 0), lambda: rows[1].clear(), lambda: rows.append([0, 0, 1]),
                lambda: rows.pop(0), lambda: rows.clear(),
            ]
            for change in changes:
                change()
                self.assertEqual(ranks_of(house), told)

    def test_another_house_made_between_changes_nothing(self):
        rows = [[1, 2], [3, 4]]
        two, all_ = Tabled(2, 2, rows), Tabled(2, 0, rows)
        for asked in range(2):
            self.assertEqual((ranks_of(two), ranks_of(all_)), ([0, 1, 0, 1], [0, 1, 1, 2]))
            self.assertEqual(ranks_of(Tabled(2, 3, [[0, 0], [1, 0]])), [0, 1, 0, 1])


if __name__ == "__main__":
    unittest.main()
