import itertools
import unittest

import helper
from basehouse.barred import kind_of
from basehouse.fields import over_all, over_three, over_two
from basehouse.houses import Even, House, Listed
from basehouse.nets import Net
from basehouse.pivots import determinant
from basehouse.tables import Tabled
from basehouse.turned import Minor, Other, Side
from helper import SEVEN, bases_by, members, minor_ranks, number, plain_kind, ranks_of, subsets, two_sets

LONG = 10**59 + 7
NUMBERS = {over_two: {0, 1}, over_three: {0, 1, 2}, over_all: {-1, 0, 1}}
KINDS = {
    over_two: {"two of four"},
    over_three: {"two of five", "three of five", "seven", "other seven"},
    over_all: {"two of four", "seven", "other seven"},
}
PRIME = {over_two: 2, over_three: 3}


def plain_left(told, kinds):
    """Whether taking out and drawing together, in any way, leaves one of the barred houses."""
    n = len(told).bit_length() - 1
    for out, drawn in two_sets(n):
        left = minor_ranks(told, out, drawn)
        if plain_kind(len(left).bit_length() - 1, bases_by(left)) in kinds:
            return True
    return False


def strewn_table(n, rows, prime, numbers):
    return [[next(numbers) % prime for k in range(n)] for row in range(rows)]


class Fields(unittest.TestCase):
    def assertTable(self, look, told, answer, words):
        self.assertEqual((len(answer), answer[0]), (2, "table"), words)
        rows = answer[1]
        n, whole = len(told).bit_length() - 1, told[-1]
        self.assertIs(type(rows), list, words)
        self.assertEqual([type(row) for row in rows], [list] * whole, words)
        self.assertEqual([len(row) for row in rows], [n] * whole, words)
        for row in rows:
            self.assertTrue(all(type(x) is int and x in NUMBERS[look] for x in row), words)
        if look in PRIME:
            self.assertEqual(ranks_of(Tabled(n, PRIME[look], rows)), told, words)
        else:
            for s in subsets(n, whole):
                found = determinant([[row[k] for k in members(s)] for row in rows])
                self.assertIn(found, (-1, 1) if told[s] == whole else (0,), words)

    def assertBarred(self, look, told, answer, words):
        self.assertEqual((len(answer), answer[0]), (4, "barred"), words)
        out, drawn, kind = answer[1:]
        self.assertEqual([type(part) for part in answer], [str, int, int, str], words)
        self.assertTrue(0 <= out < len(told) and 0 <= drawn < len(told), words)
        self.assertEqual(out & drawn, 0, words)
        left = minor_ranks(told, out, drawn)
        self.assertIn(kind, KINDS[look], words)
        self.assertEqual(plain_kind(len(left).bit_length() - 1, bases_by(left)), kind, words)

    def assertOver(self, house, words="", looks=(over_two, over_three, over_all)):
        """Each answer is a table or a barred house, as told; whether it is a table, look by look."""
        told, n = ranks_of(house), house.many
        found = []
        for look in looks:
            answer = look(house)
            self.assertIs(type(answer), tuple, words)
            if answer[0] == "table":
                self.assertTable(look, told, answer, (look, words))
            else:
                self.assertBarred(look, told, answer, (look, words))
                self.assertEqual(kind_of(Minor(house, answer[1], answer[2])), answer[3], words)
            found.append(answer[0] == "table")
        if len(looks) == 3:
            self.assertEqual(found[2], found[0] and found[1], words)
        self.assertEqual((ranks_of(house), house.many), (told, n), words)
        return tuple(found)


class ByHand(Fields):
    def test_no_things_and_rank_0(self):
        for look in [over_two, over_three, over_all]:
            for n in range(9):
                self.assertEqual(look(House(n)), ("table", []))
                self.assertEqual(look(Even(n, 0)), ("table", []))
            self.assertEqual(look(Net(0, 5, [])), ("table", []))
            self.assertEqual(look(Net(3, 3, [(0, 0), (1, 1), (0, 0)])), ("table", []))
            self.assertEqual(look(Tabled(4, 3, [[0, 3, -3, 0]] * 3)), ("table", []))
            self.assertEqual(look(Tabled(0, 2, [])), ("table", []))

    def test_every_set_free(self):
        for n in range(9):
            self.assertEqual(self.assertOver(Even(n, n)), (True, True, True))

    def test_even_houses(self):
        for n in range(9):
            for k in range(n + 1):
                plain = k <= 1 or k >= n - 1
                told = (plain, plain or (n, k) == (4, 2), plain)
                self.assertEqual(self.assertOver(Even(n, k), (n, k)), told, (n, k))

    def test_the_barred_ones_themselves(self):
        self.assertEqual(over_two(Even(4, 2)), ("barred", 0, 0, "two of four"))
        self.assertEqual(over_all(Even(4, 2)), ("barred", 0, 0, "two of four"))
        self.assertEqual(over_three(Even(5, 2)), ("barred", 0, 0, "two of five"))
        self.assertEqual(over_three(Even(5, 3)), ("barred", 0, 0, "three of five"))
        seven = Listed(7, SEVEN)
        for look in [over_three, over_all]:
            self.assertEqual(look(seven), ("barred", 0, 0, "seven"))
            self.assertEqual(look(Other(seven)), ("barred", 0, 0, "other seven"))
        self.assertEqual(self.assertOver(seven), (True, False, False))
        self.assertEqual(self.assertOver(Other(seven)), (True, False, False))
        self.assertEqual(self.assertOver(Even(4, 2)), (False, True, False))

    def test_what_is_left_of_a_barred_house_is_none(self):
        sevens = [Listed(7, SEVEN), Other(Listed(7, SEVEN))]
        for look, houses in [(over_two, [Even(4, 2)]), (over_three, [Even(5, 2), Even(5, 3)] + sevens),
                             (over_all, [Even(4, 2)] + sevens)]:
            for house in houses:
                for thing in range(house.many):
                    for left in [Minor(house, 2**thing, 0), Minor(house, 0, 2**thing)]:
                        self.assertEqual(self.assertOver(left, looks=(look,)), (True,))

    def test_every_seven(self):
        for bases in helper.all_sevens()[::2]:
            for house in [Listed(7, bases), Other(Listed(7, bases))]:
                self.assertEqual(self.assertOver(house), (True, False, False))

    def test_one_base_more_than_seven(self):
        for line in helper.LINES:
            house = Listed(7, sorted(SEVEN + [number(line)]))
            self.assertEqual(self.assertOver(house), (False, True, False))
            self.assertEqual(self.assertOver(Other(house)), (False, True, False))
        two_more = Listed(7, sorted(SEVEN + [number(line) for line in helper.LINES[:2]]))
        self.assertEqual(self.assertOver(two_more), (False, False, False))

    def test_a_house_with_no_table_at_all(self):
        # Four sets of four and a fifth: no table over any field has just these noughts.
        shut = [number(pair) for pair in [(0, 1, 2, 3), (0, 1, 4, 5), (0, 1, 6, 7), (2, 3, 4, 5), (2, 3, 6, 7)]]
        house = Listed(8, [s for s in subsets(8, 4) if s not in shut])
        self.assertEqual(self.assertOver(house), (False, False, False))
        self.assertEqual(self.assertOver(Other(house)), (False, False, False))

    def test_eight_things_over_2_alone(self):
        # The eight corners of a cube over 2.
        rows = [[1] * 8] + [[(k // 2**j) % 2 for k in range(8)] for j in range(3)]
        cube = Tabled(8, 2, rows)
        self.assertEqual(self.assertOver(cube), (True, False, False))
        self.assertEqual(self.assertOver(Other(cube)), (True, False, False))

    def test_nets_of_every_form(self):
        every = [(0, 1), (0, 2), (0, 3), (1, 2), (1, 3), (2, 3)]
        round_about = [(k, (k + 1) % 8) for k in range(8)]
        wheel = [(0, 1), (0, 2), (0, 3), (0, 4), (1, 2), (2, 3), (3, 4), (4, 1)]
        three_by_two = [(a, b) for a in (0, 1, 2) for b in (3, 4)]
        twice = [(0, 1)] * 4 + [(1, 2)] * 4
        star = [(0, k) for k in range(1, 9)]
        parted = [(0, 1), (1, 0), (2, 3), (3, 4), (4, 2), (5, 5), (7, 8)]
        for points, ties in [(4, every), (8, round_about), (5, wheel), (5, three_by_two), (3, twice), (9, star),
                             (9, parted), (4, every + [(0, 0), (0, 1)]), (1, [(0, 0)] * 8), (0, []), (9, [])]:
            net = Net(len(ties), points, ties)
            self.assertEqual(self.assertOver(net, ties), (True, True, True))
            self.assertEqual(self.assertOver(Other(net), ties), (True, True, True))


class Sorts(Fields):
    def test_every_sort(self):
        for label, house in helper.all_houses() + helper.deep_houses():
            found = self.assertOver(house, label)
            if isinstance(house, Net):
                self.assertEqual(found, (True, True, True), label)
            if isinstance(house, Tabled) and house.prime in (2, 3):
                self.assertTrue(found[house.prime - 2], label)

    def test_every_house_of_few_things(self):
        many = 0
        for n in range(6):
            for house in helper.small_houses(n):
                told = ranks_of(house)
                found = self.assertOver(house, told)
                many += 1
                # Just one of the two: a table is told where nothing barred is left in whatever way.
                if n < 5 or many % 6 == 0:
                    for look, table in zip([over_two, over_three, over_all], found):
                        self.assertEqual(table, not plain_left(told, KINDS[look]), told)
        self.assertEqual(many, sum(helper.HOUSES))

    def test_just_one_of_the_two_for_more_things(self):
        houses = [helper.paved(6, 3, 3), Net(6, 4, [(0, 1), (0, 2), (0, 3), (1, 2), (1, 3), (2, 3)]),
                  Tabled(6, 3, [[1, 0, 0, 1, 1, 1], [0, 1, 0, 1, 2, 0], [0, 0, 1, 0, 1, 2]]),
                  Tabled(6, 2, [[1, 0, 0, 1, 1, 1], [0, 1, 0, 1, 0, 1], [0, 0, 1, 0, 1, 1]])]
        for house in houses:
            told = ranks_of(house)
            for look, table in zip([over_two, over_three, over_all], self.assertOver(house)):
                self.assertEqual(table, not plain_left(told, KINDS[look]), told)

    def tables(self, prime, rows, step):
        """Each step-th table of rows of four numbers, and strewn ones with 5 to 8 things."""
        for chosen in range(0, prime ** (4 * rows), step):
            yield [[(chosen // prime ** (4 * row + k)) % prime for k in range(4)] for row in range(rows)]
        numbers = helper.strewn(39 + prime)
        for turn in range(120):
            yield strewn_table(5 + turn % 4, 1 + turn % 6, prime, numbers)

    def test_houses_that_have_a_table(self):
        for look, prime, rows, step in [(over_two, 2, 3, 5), (over_three, 3, 2, 7)]:
            for table in self.tables(prime, rows, step):
                house = Tabled(len(table[0]), prime, table)
                for made in [house, Other(house)]:
                    self.assertEqual(self.assertOver(made, table, (look,)), (True,))

    def test_tables_in_any_form(self):
        numbers = helper.strewn(43)
        for turn in range(30):
            n = 4 + turn % 5
            for prime, look in [(2, over_two), (3, over_three)]:
                rows = strewn_table(n, 3, prime, numbers)
                # Rows twice, sums of rows, rows of noughts, and numbers far from their rests.
                more = [rows[0], [a + b for a, b in zip(rows[1], rows[2])], [0] * n] + rows
                far = [[x + prime * (next(numbers) - 2**31) * 10**45 for x in row] for row in more]
                house = Tabled(n, prime, far)
                self.assertEqual(ranks_of(house), ranks_of(Tabled(n, prime, rows)))
                self.assertEqual(self.assertOver(house, rows, (look,)), (True,))

    def test_tables_over_other_primes_and_fractions(self):
        numbers = helper.strewn(44)
        for turn in range(60):
            n, rows, prime = 4 + turn % 5, 2 + turn % 3, (5, 7, 97, 0)[turn % 4]
            house = Tabled(n, prime, strewn_table(n, rows, prime or LONG, numbers))
            self.assertEqual(self.assertOver(house, house.rows), self.assertOver(Other(house), house.rows))

    def test_few_sets_that_are_no_bases(self):
        for seed in range(25):
            for n, rank in [(6, 3), (7, 3), (7, 4), (8, 4), (8, 3)]:
                house = helper.paved(n, rank, seed)
                self.assertOver(house, (n, rank, seed))

    def test_strewn_nets(self):
        numbers = helper.strewn(45)
        for turn in range(80):
            n, points = 3 + turn % 6, 1 + turn % 9
            net = Net(n, points, [(next(numbers) % points, next(numbers) % points) for k in range(n)])
            self.assertEqual(self.assertOver(net, net.ties), (True, True, True))
            self.assertEqual(self.assertOver(Other(net), net.ties), (True, True, True))


class Made(Fields):
    def test_the_other_house_likewise(self):
        for label, house in helper.all_houses()[::4]:
            self.assertEqual(self.assertOver(house, label), self.assertOver(Other(house), label), label)

    def test_side_by_side_just_where_both(self):
        some = [House(1), Even(1, 1), Even(2, 1), Even(4, 2), Even(3, 1), Net(4, 3, [(0, 1), (1, 2), (2, 0), (1, 1)])]
        some += [Tabled(4, 5, [[1, 1, 1, 1], [0, 1, 2, 3]]), Other(Net(3, 3, [(0, 1), (1, 2), (2, 0)]))]
        for one, other in itertools.product(some, some):
            both = zip(self.assertOver(one), self.assertOver(other))
            self.assertEqual(self.assertOver(Side(one, other)), tuple(a and b for a, b in both))
        for house in [Even(5, 2), Even(5, 3)]:
            for one in some:
                if one.many <= 3:
                    self.assertEqual(self.assertOver(Side(house, one)), (False, False, False))
                    self.assertEqual(self.assertOver(Side(one, house)), (False, False, False))

    def test_one_thing_more(self):
        barred = [(Even(4, 2), (False, True, False)), (Even(5, 2), (False, False, False)),
                  (Even(5, 3), (False, False, False)), (Listed(7, SEVEN), (True, False, False)),
                  (Other(Listed(7, SEVEN)), (True, False, False))]
        for house, told in barred:
            for one in [House(1), Even(1, 1)]:
                self.assertEqual(self.assertOver(Side(house, one)), told)
                self.assertEqual(self.assertOver(Side(one, house)), told)
                self.assertEqual(self.assertOver(Other(Side(one, house))), told)

    def test_like_things_beside_each_other(self):
        rows = [[1, 0, 0, 1, 1, 0, 1], [0, 1, 0, 1, 0, 1, 1], [0, 0, 1, 0, 1, 1, 1]]
        for like in range(7):
            for place in (0, like + 1, 7):
                twice = [row[:place] + [row[like]] + row[place:] for row in rows]
                house = Tabled(8, 2, twice)
                self.assertEqual(self.assertOver(house), (True, False, False))
                # In the other house the two are just those that are left together, in a row.
                self.assertEqual(self.assertOver(Other(house)), (True, False, False))
        for n, k in [(4, 2), (5, 2), (5, 3)]:
            pairs = subsets(n, k)
            alike = pairs + [s - 1 + 2**n for s in pairs if s % 2 == 1]
            house = Listed(n + 1, alike)
            self.assertEqual(self.assertOver(house), (False, n == 4, False))
            self.assertEqual(self.assertOver(Other(house)), (False, n == 4, False))

    def test_things_of_rank_0_and_things_in_every_base(self):
        for house in [Even(4, 2), Even(3, 2), Net(5, 4, [(0, 1), (1, 2), (2, 0), (2, 3), (1, 3)])]:
            told = self.assertOver(house)
            for left in [Side(House(2), Side(house, Even(1, 1))), Side(Side(Even(2, 2), House(1)), house)]:
                self.assertEqual(self.assertOver(left), told)

    def test_a_told_table_is_the_askers_own(self):
        for look in [over_two, over_three, over_all]:
            house = Net(6, 4, [(0, 1), (0, 2), (0, 3), (1, 2), (1, 3), (2, 3)])
            first = look(house)
            kept = [list(row) for row in first[1]]
            again = look(house)
            again[1][0][0] = 99
            again[1][1].clear()
            again[1].pop()
            self.assertEqual(first[1], kept)
            first[1][0][5] = 7
            first[1].append([1])
            self.assertEqual(self.assertOver(house), (True, True, True))
            nothing = look(House(3))
            nothing[1].append([0, 0, 0])
            self.assertEqual(look(House(3)), ("table", []))

    def test_numbers_of_60_figures(self):
        rows = [[LONG + k * j for k in range(8)] for j in range(1, 4)] + [[(-LONG) ** 1 + k**5 for k in range(8)]]
        self.assertOver(Tabled(8, 0, rows))
        self.assertOver(Tabled(8, 97, rows))
        self.assertEqual(self.assertOver(Tabled(8, 2, rows), "", (over_two,)), (True,))
        self.assertEqual(self.assertOver(Tabled(8, 3, rows), "", (over_three,)), (True,))


if __name__ == "__main__":
    unittest.main()
