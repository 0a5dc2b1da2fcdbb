import itertools
import unittest
from fractions import Fraction

import helper
from basehouse.pivots import determinant, rank_of

BIG = 10**60 - 1
LONG = 10**59 + 7


def turned(rows):
    return [list(column) for column in zip(*rows)]


def copied(rows):
    return [list(row) for row in rows]


def fraction_rank(rows):
    """By fractions, from the last column to the first."""
    left = [[Fraction(number) for number in reversed(row)] for row in rows]
    rank = 0
    for column in range(len(rows[0]) if rows else 0):
        pivots = [row for row in left if row[column] != 0]
        if pivots:
            rank += 1
            pivot = pivots[-1]
            left.remove(pivot)
            left = [[a - b * row[column] / pivot[column] for a, b in zip(row, pivot)] for row in left]
    return rank


def rest_rank(rows, p):
    """By counting what the rows come to in sums of multiples: p to the power of the rank."""
    reached = {tuple([0] * len(rows[0]))} if rows else {()}
    rank = 0
    for row in rows:
        if tuple(number % p for number in row) not in reached:
            rank += 1
            reached = {tuple((a + m * b) % p for a, b in zip(sum_, row)) for sum_ in reached for m in range(p)}
    return rank


def column_rank(rows, columns, p):
    """The most columns such that no sum of multiples is a column of noughts, but for all multiples nought."""
    def apart(some):
        for multiples in itertools.product(range(p), repeat=len(some)):
            if any(multiples) and all(sum(m * row[c] for m, c in zip(multiples, some)) % p == 0 for row in rows):
                return False
        return True

    return max(k for k in range(columns + 1) if any(apart(some) for some in itertools.combinations(range(columns), k)))


def inverse_rank(rows, p):
    left = [[number % p for number in row] for row in rows]
    rank = 0
    for column in range(len(rows[0]) if rows else 0):
        pivots = [row for row in left if row[column]]
        if pivots:
            rank += 1
            pivot = [number * pow(pivots[0][column], -1, p) % p for number in pivots[0]]
            left.remove(pivots[0])
            left = [[(a - b * row[column]) % p for a, b in zip(row, pivot)] for row in left]
    return rank


def by_orders(rows):
    """The determinant as the sum over all orders of the columns."""
    total = 0
    for order in itertools.permutations(range(len(rows))):
        turns = sum(a > b for a, b in itertools.combinations(order, 2))
        worth = -1 if turns % 2 else 1
        for row, column in zip(rows, order):
            worth *= row[column]
        total += worth
    return total


def by_fractions(rows):
    left = [[Fraction(number) for number in row] for row in rows]
    worth = Fraction(1)
    for k in range(len(left)):
        place = next((r for r in range(k, len(left)) if left[r][k] != 0), None)
        if place is None:
            return 0
        if place != k:
            left[k], left[place] = left[place], left[k]
            worth = -worth
        worth *= left[k][k]
        for r in range(k + 1, len(left)):
            left[r] = [a - b * left[r][k] / left[k][k] for a, b in zip(left[r], left[k])]
    return int(worth)


def tables(rows, columns, many, seed, spans=(3, 5, 7)):
    """Tables of small numbers, below nought too."""
    numbers = helper.strewn(seed)
    for turn in range(many):
        span = spans[turn % len(spans)]
        yield [[next(numbers) % span - span // 2 for column in range(columns)] for row in range(rows)]


def long_tables(rows, columns, many, seed):
    numbers = helper.strewn(seed)
    for turn in range(many):
        table = []
        for row in range(rows):
            table.append([])
            for column in range(columns):
                long = 0
                for part in range(7):
                    long = long * 2**32 + next(numbers)
                table[-1].append((long % 10**60) * (1 if next(numbers) % 2 else -1))
        yield table


def hanging(rows, rank, columns, seed, factor=1):
    """A table whose rows are sums of multiples of the first ones."""
    first = next(tables(rank, columns, 1, seed, (9,)))
    first = [[number * factor for number in row] for row in first]
    multiples = tables(rows - rank, rank, 1, seed + 1, (7,))
    for some in next(multiples):
        first.append([sum(m * row[c] for m, row in zip(some, first)) for c in range(columns)])
    return first


class Rank(unittest.TestCase):
    def assertRank(self, rows, prime, told):
        kept = copied(rows)
        found = rank_of(rows, prime)
        self.assertEqual(found, told, (prime, kept))
        self.assertIs(type(found), int)
        self.assertEqual(rows, kept)

    def test_no_rows(self):
        for prime in [0] + helper.PRIMES:
            self.assertRank([], prime, 0)

    def test_nought_columns(self):
        for prime in [0] + helper.PRIMES:
            for rows in range(1, 9):
                self.assertRank([[] for row in range(rows)], prime, 0)

    def test_noughts(self):
        for prime in [0] + helper.PRIMES:
            for rows, columns in itertools.product(range(1, 9), range(1, 9)):
                self.assertRank([[0] * columns for row in range(rows)], prime, 0)

    def test_a_single_number(self):
        for prime in helper.PRIMES:
            for number in [0, 1, -1, prime, -prime, 2 * prime, prime + 1, prime - 1, prime**2, LONG, -LONG, BIG, -BIG]:
                self.assertRank([[number]], prime, 0 if number % prime == 0 else 1)
        for number in [1, -1, 2, LONG, -LONG, BIG, -BIG]:
            self.assertRank([[number]], 0, 1)

    def test_ones_along_the_slant(self):
        for prime in [0] + helper.PRIMES:
            for n in range(1, 9):
                slant = [[1 if row == column else 0 for column in range(n)] for row in range(n)]
                self.assertRank(slant, prime, n)
                self.assertRank(slant[::-1], prime, n)
                for k in range(n):
                    self.assertRank(slant[:k] + slant[k + 1:], prime, n - 1)

    def test_every_small_table_over_2_and_3(self):
        for prime, rows, columns in [(2, 3, 3), (2, 2, 4), (2, 4, 2), (3, 2, 3), (3, 3, 2), (5, 2, 2)]:
            for numbers in itertools.product(range(prime), repeat=rows * columns):
                table = [list(numbers[r * columns:(r + 1) * columns]) for r in range(rows)]
                self.assertRank(table, prime, rest_rank(table, prime))

    def test_columns_as_the_point_tells_them(self):
        for prime in [2, 3, 5]:
            for rows, columns in [(1, 1), (1, 3), (2, 3), (3, 3), (4, 3), (3, 4)]:
                for table in tables(rows, columns, 12, prime * 50 + rows * 7 + columns):
                    self.assertRank(table, prime, column_rank(table, columns, prime))

    def test_against_another_way(self):
        for rows, columns in itertools.product(range(1, 9), range(1, 9)):
            for table in tables(rows, columns, 6, rows * 10 + columns, (2, 3, 9)):
                self.assertRank(table, 0, fraction_rank(table))
                for prime in [2, 3, 5, 7, 31, 97]:
                    self.assertRank(table, prime, inverse_rank(table, prime))

    def test_every_prime(self):
        for prime in helper.PRIMES:
            for rows, columns in [(2, 2), (3, 5), (5, 3), (8, 8)]:
                for table in tables(rows, columns, 3, prime, (prime + 2, 3, 2 * prime + 1)):
                    self.assertRank(table, prime, inverse_rank(table, prime))

    def test_long_numbers(self):
        for rows, columns in [(1, 8), (2, 3), (4, 4), (8, 3), (8, 8)]:
            for table in long_tables(rows, columns, 2, rows + columns):
                self.assertRank(table, 0, fraction_rank(table))
                for prime in helper.PRIMES:
                    self.assertRank(table, prime, inverse_rank(table, prime))

    def test_long_numbers_that_hang_together(self):
        a, b, c = LONG, -BIG, 10**58 + 1
        self.assertRank([[a, b], [2 * a, 2 * b]], 0, 1)
        self.assertRank([[a, b], [2 * a, 2 * b + 1]], 0, 2)
        self.assertRank([[a, a, b], [b, b, a], [a + b, a + b, a + b]], 0, 2)
        self.assertRank([[a, b, c], [b, c, a], [a + b, b + c, c + a]], 0, 2)
        self.assertRank([[a, b, c], [b, c, a], [a + b, b + c, c + a + 1]], 0, 3)

    def test_sums_of_multiples(self):
        for rank in range(1, 8):
            for rows in range(rank + 1, 9):
                for columns in [rank, 8]:
                    table = hanging(rows, rank, columns, rank * 100 + rows * 10 + columns)
                    self.assertLessEqual(fraction_rank(table), rank)
                    self.assertRank(table, 0, fraction_rank(table))
                    self.assertRank(turned(table), 0, fraction_rank(table))
                    for prime in [2, 3, 11, 97]:
                        self.assertRank(table, prime, inverse_rank(table, prime))
                        self.assertRank(table[::-1], prime, inverse_rank(table, prime))
                    long = hanging(rows, rank, columns, rank * 100 + rows * 10 + columns, 10**56 + 3)
                    self.assertRank(long, 0, fraction_rank(table))

    def test_unlike_ranks_over_unlike_primes(self):
        for prime in helper.PRIMES:
            for other in [0] + helper.PRIMES:
                told = 1 if other == prime else 2
                self.assertRank([[1, 1], [1, 1 + prime]], other, told)
                self.assertRank([[prime + 1, -1], [1, prime - 1]], other, told)
                self.assertRank([[prime, 0], [0, 1]], other, told)
        self.assertRank([[6, 0, 0], [0, 10, 0], [0, 0, 15]], 2, 1)
        self.assertRank([[6, 0, 0], [0, 10, 0], [0, 0, 15]], 3, 1)
        self.assertRank([[6, 0, 0], [0, 10, 0], [0, 0, 15]], 5, 1)
        self.assertRank([[6, 0, 0], [0, 10, 0], [0, 0, 15]], 7, 3)
        self.assertRank([[6, 0, 0], [0, 10, 0], [0, 0, 15]], 0, 3)
        self.assertRank([[1, 1, 0], [1, 0, 1], [0, 1, 1]], 2, 2)
        self.assertRank([[1, 1, 0], [1, 0, 1], [0, 1, 1]], 3, 3)

    def test_columns_without_a_pivot_between(self):
        for prime in [0, 2, 3, 97]:
            self.assertRank([[0, 1, 0, 1], [0, 0, 0, 1], [0, 1, 0, 0]], prime, 2)
            self.assertRank([[0, 0, 0, 1]], prime, 1)
            self.assertRank([[0], [0], [1]], prime, 1)
        self.assertRank([[2, 4, 1, 3], [4, 8, 5, 7], [6, 12, 9, 1]], 0, 3)
        self.assertRank([[3, 6, 9, 2], [5, 10, 15, 4], [7, 14, 21, 8], [2, 4, 6, 1]], 0, 2)


class Determinant(unittest.TestCase):
    def assertDeterminant(self, rows, told):
        kept = copied(rows)
        found = determinant(rows)
        self.assertEqual(found, told, kept)
        self.assertIs(type(found), int)
        self.assertEqual(rows, kept)

    def test_by_hand(self):
        self.assertDeterminant([], 1)
        self.assertDeterminant([[0]], 0)
        self.assertDeterminant([[-7]], -7)
        self.assertDeterminant([[1, 2], [3, 4]], -2)
        self.assertDeterminant([[0, 1], [1, 0]], -1)
        self.assertDeterminant([[2, 0, 0], [0, 3, 0], [0, 0, 5]], 30)
        self.assertDeterminant([[0, 0, 2], [0, 3, 0], [5, 0, 0]], -30)
        self.assertDeterminant([[0, 0, 2], [3, 0, 0], [0, 5, 0]], 30)
        self.assertDeterminant([[LONG]], LONG)
        self.assertDeterminant([[BIG, 1], [1, BIG]], BIG * BIG - 1)

    def test_every_small_table(self):
        for rows, numbers in [(1, range(-4, 5)), (2, range(-2, 3)), (3, range(-1, 2))]:
            for some in itertools.product(numbers, repeat=rows * rows):
                table = [list(some[r * rows:(r + 1) * rows]) for r in range(rows)]
                self.assertDeterminant(table, by_orders(table))

    def test_against_the_sum_over_all_orders(self):
        for rows in range(1, 5):
            for table in list(tables(rows, rows, 60, rows)) + list(long_tables(rows, rows, 5, rows)):
                self.assertDeterminant(table, by_orders(table))

    def test_up_to_eight_rows(self):
        for rows in range(5, 9):
            for table in list(tables(rows, rows, 15, rows, (2, 3, 9))) + list(long_tables(rows, rows, 3, rows)):
                self.assertDeterminant(table, by_fractions(table))

    def test_the_orders_of_rows(self):
        for n in range(1, 7):
            for order in itertools.permutations(range(n)):
                turns = sum(a > b for a, b in itertools.combinations(order, 2))
                table = [[1 if column == place else 0 for column in range(n)] for place in order]
                self.assertDeterminant(table, -1 if turns % 2 else 1)

    def test_eight_rows_by_products(self):
        # Each number of the first row to the powers 0 to 7: the product of all differences.
        some = [3, -2, 7, 1, -5, 11, 4, -8]
        told = 1
        for a, b in itertools.combinations(some, 2):
            told *= b - a
        self.assertDeterminant([[number**power for number in some] for power in range(8)], told)

    def test_rows_and_columns_exchanged(self):
        for rows in range(9):
            for table in list(tables(rows, rows, 8, 40 + rows)) + list(long_tables(rows, rows, 2, 40 + rows)):
                self.assertDeterminant(turned(table), determinant(table))

    def test_rows_that_hang_together(self):
        for rows in range(2, 9):
            for rank in range(1, rows):
                table = hanging(rows, rank, rows, rows * 10 + rank)
                self.assertDeterminant(table, 0)
                self.assertDeterminant(table[::-1], 0)
                self.assertDeterminant(turned(table), 0)
                self.assertDeterminant(hanging(rows, rank, rows, rows * 10 + rank, 10**56), 0)
            long = next(long_tables(rows, rows, 1, rows))
            self.assertDeterminant(long[:-1] + [long[0]], 0)
            self.assertDeterminant([[0] + row[1:] for row in long], 0)
            self.assertDeterminant([row[:-1] + [0] for row in long], 0)

    def test_it_is_nought_just_where_the_rank_is_less(self):
        for rows in range(1, 9):
            for table in tables(rows, rows, 20, 90 + rows, (2, 3)):
                self.assertEqual(determinant(table) == 0, rank_of(table, 0) < rows)
                for prime in [2, 3, 97]:
                    self.assertEqual(determinant(table) % prime == 0, rank_of(table, prime) < rows)


class AskedAgain(unittest.TestCase):
    def test_the_same_answers_whatever_was_asked_between(self):
        table = [[1, 2], [3, 4]]
        for asked in range(3):
            self.assertEqual((rank_of(table, 2), rank_of(table, 0), determinant(table)), (1, 2, -2))
            determinant([[5, 6, 7], [1, 1, 1], [2, 0, 1]])
            rank_of([[1] * 8] * 8, 3)

    def test_one_row_that_stands_in_several_places(self):
        row = [1, 2, 3]
        self.assertEqual(rank_of([row, row, row], 0), 1)
        self.assertEqual(determinant([row, row, row]), 0)
        self.assertEqual(row, [1, 2, 3])


if __name__ == "__main__":
    unittest.main()
