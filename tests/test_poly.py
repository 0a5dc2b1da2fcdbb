import itertools
import math
import unittest

import helper
from basehouse.houses import Even, House, Listed
from basehouse.nets import Net
from basehouse.poly import colourings, counts, polynomial, worth
from basehouse.turned import Minor, Other, Side
from helper import members, ranks_of

LONG = 10**59 + 7
HOUSES = helper.all_houses() + helper.deep_houses()
NUMBERS = [(0, 0), (1, 1), (2, 1), (1, 2), (0, 3), (3, 0), (-1, 4), (-2, -3), (7, -5), (LONG, 1 - LONG), (-LONG, LONG)]


def plain_terms(told):
    """The sum over all sets, multiplied out: (x - 1) and (y - 1) to what a set lacks in rank and has too much."""
    terms = {}
    for s, rank in enumerate(told):
        lacks, more = told[-1] - rank, len(members(s)) - rank
        for i, j in itertools.product(range(lacks + 1), range(more + 1)):
            c = math.comb(lacks, i) * math.comb(more, j) * (-1) ** (lacks - i + more - j)
            terms[i, j] = terms.get((i, j), 0) + c
    return sorted((i, j, c) for (i, j), c in terms.items() if c != 0)


def plain_worth(terms, x, y):
    return sum(c * x**i * y**j for i, j, c in terms)


def some_orders(n, seed):
    numbers = helper.strewn(seed)
    found = [list(range(n)), list(range(n))[::-1]]
    for turn in range(3):
        found.append(sorted(range(n), key=lambda k: next(numbers)))
    return found


class Polynomial(unittest.TestCase):
    def assertTerms(self, terms, words=""):
        self.assertIs(type(terms), list, words)
        for term in terms:
            self.assertIs(type(term), tuple, words)
            self.assertEqual([type(part) for part in term], [int, int, int], words)
        self.assertEqual(terms, sorted(terms), words)
        self.assertEqual(len({term[:2] for term in terms}), len(terms), words)
        self.assertTrue(all(c >= 1 for i, j, c in terms), words)

    def test_by_hand(self):
        self.assertEqual(polynomial(House(0)), [(0, 0, 1)])
        self.assertEqual(polynomial(House(3)), [(0, 3, 1)])
        self.assertEqual(polynomial(Even(8, 8)), [(8, 0, 1)])
        self.assertEqual(polynomial(House(8)), [(0, 8, 1)])
        self.assertEqual(polynomial(Even(2, 1)), [(0, 1, 1), (1, 0, 1)])
        self.assertEqual(polynomial(Even(3, 1)), [(0, 1, 1), (0, 2, 1), (1, 0, 1)])
        self.assertEqual(polynomial(Even(4, 2)), [(0, 1, 2), (0, 2, 1), (1, 0, 2), (2, 0, 1)])
        self.assertEqual(polynomial(Side(House(1), Even(1, 1))), [(1, 1, 1)])
        every = Net(6, 4, [(0, 1), (0, 2), (0, 3), (1, 2), (1, 3), (2, 3)])
        told = [(0, 1, 2), (0, 2, 3), (0, 3, 1), (1, 0, 2), (1, 1, 4), (2, 0, 3), (3, 0, 1)]
        self.assertEqual(polynomial(every), told)
        seven = [(0, 1, 3), (0, 2, 6), (0, 3, 3), (0, 4, 1), (1, 0, 3), (1, 1, 7), (2, 0, 4), (3, 0, 1)]
        self.assertEqual(polynomial(Listed(7, helper.SEVEN)), seven)

    def test_every_sort(self):
        for label, house in HOUSES:
            told = ranks_of(house)
            terms = polynomial(house)
            self.assertTerms(terms, label)
            self.assertEqual(terms, plain_terms(told), label)
            self.assertEqual(ranks_of(house), told, label)

    def test_every_house_of_few_things(self):
        for n in range(5):
            for house in helper.small_houses(n):
                terms = polynomial(house)
                self.assertTerms(terms)
                self.assertEqual(terms, plain_terms(ranks_of(house)))

    def test_the_sum_over_all_sets(self):
        for label, house in HOUSES[::3]:
            told = ranks_of(house)
            terms = polynomial(house)
            for x, y in NUMBERS:
                plain = sum((x - 1) ** (told[-1] - rank) * (y - 1) ** (len(members(s)) - rank)
                            for s, rank in enumerate(told))
                self.assertEqual(worth(terms, x, y), plain, (label, x, y))

    def test_step_by_step(self):
        # Whichever thing is taken, the rule of the point holds.
        for label, house in HOUSES[::4]:
            told, e = ranks_of(house), 2**house.many - 1
            for k in range(house.many):
                out = dict(((i, j), c) for i, j, c in polynomial(Minor(house, 2**k, 0)))
                if told[2**k] == 0:
                    plain = {(i, j + 1): c for (i, j), c in out.items()}
                elif told[e - 2**k] < told[e]:
                    plain = {(i + 1, j): c for (i, j), c in out.items()}
                else:
                    plain = dict(out)
                    for i, j, c in polynomial(Minor(house, 0, 2**k)):
                        plain[i, j] = plain.get((i, j), 0) + c
                self.assertEqual(polynomial(house), sorted((i, j, c) for (i, j), c in plain.items()), (label, k))

    def test_by_every_order(self):
        for label, house in HOUSES[::2]:
            terms = polynomial(house)
            for order in some_orders(house.many, len(label)):
                kept = list(order)
                self.assertEqual(polynomial(house, order), terms, (label, order))
                self.assertEqual(polynomial(house, order=order), terms, (label, order))
                self.assertEqual(order, kept)
            self.assertEqual(polynomial(house, None), terms)

    def test_by_all_orders_of_five(self):
        house = Net(5, 4, [(0, 1), (1, 2), (2, 0), (2, 3), (1, 1)])
        terms = polynomial(house)
        for order in itertools.permutations(range(5)):
            self.assertEqual(polynomial(house, list(order)), terms)

    def test_of_the_other_house(self):
        for label, house in HOUSES[::3]:
            turned = sorted((j, i, c) for i, j, c in polynomial(house))
            self.assertEqual(polynomial(Other(house)), turned, label)

    def test_of_two_side_by_side(self):
        some = [house for label, house in HOUSES if house.many <= 4][::9]
        for one, other in itertools.product(some, some):
            product = {}
            for (i, j, c), (k, m, d) in itertools.product(polynomial(one), polynomial(other)):
                product[i + k, j + m] = product.get((i + k, j + m), 0) + c * d
            self.assertEqual(polynomial(Side(one, other)), sorted((i, j, c) for (i, j), c in product.items()))

    def test_the_list_is_the_askers_own(self):
        house = Even(4, 2)
        first = polynomial(house)
        again = polynomial(house)
        again.append((9, 9, 9))
        again[0] = (7, 7, 7)
        self.assertEqual(first, [(0, 1, 2), (0, 2, 1), (1, 0, 2), (2, 0, 1)])
        first.clear()
        self.assertEqual(polynomial(house), [(0, 1, 2), (0, 2, 1), (1, 0, 2), (2, 0, 1)])
        self.assertEqual(counts(house), (6, 11, 11))


class Worth(unittest.TestCase):
    def test_by_hand(self):
        self.assertEqual(worth([], 5, 7), 0)
        self.assertEqual(worth([(0, 0, 1)], 0, 0), 1)
        self.assertEqual(worth([(0, 0, -4)], 3, 3), -4)
        self.assertEqual(worth([(1, 0, 1)], 0, 0), 0)
        self.assertEqual(worth([(1, 0, 1), (0, 1, 1)], 3, -5), -2)
        self.assertEqual(worth([(2, 3, 4)], 5, -2), -800)
        self.assertEqual(worth([(0, 8, 2)], 0, -1), 2)
        self.assertEqual(worth([(8, 0, 2)], -1, 0), 2)
        self.assertEqual(worth([(8, 8, 1)], LONG, -LONG), LONG**16)

    def test_nought_to_the_power_nought(self):
        for i, j in itertools.product(range(9), repeat=2):
            self.assertEqual(worth([(i, j, 3)], 0, 0), 3 if i == j == 0 else 0)
            self.assertEqual(worth([(i, j, 3)], 0, 1), 3 if i == 0 else 0)
            self.assertEqual(worth([(i, j, 3)], 1, 0), 3 if j == 0 else 0)

    def test_each_power(self):
        for i, j in itertools.product(range(9), repeat=2):
            for x, y in NUMBERS:
                found = worth([(i, j, -2)], x, y)
                self.assertEqual(found, -2 * x**i * y**j)
                self.assertIs(type(found), int)

    def test_any_order_and_a_pair_twice(self):
        self.assertEqual(worth([(1, 1, 2), (1, 1, 3)], 2, 5), 50)
        self.assertEqual(worth([(1, 1, 2), (1, 1, -2)], 2, 5), 0)
        self.assertEqual(worth([(2, 0, 1), (0, 0, 5), (1, 3, 0), (2, 0, 1)], 3, 9), 23)
        numbers = helper.strewn(51)
        for turn in range(200):
            terms = [(next(numbers) % 9, next(numbers) % 9, next(numbers) % 7 - 3) for place in range(turn % 12)]
            x, y = NUMBERS[turn % len(NUMBERS)]
            kept = list(terms)
            self.assertEqual(worth(terms, x, y), plain_worth(terms, x, y))
            self.assertEqual(worth(terms[::-1], x, y), plain_worth(terms, x, y))
            self.assertEqual(terms, kept)

    def test_numbers_of_60_figures(self):
        terms = [(8, 0, LONG), (0, 8, -LONG), (4, 4, 10**60 - 1), (4, 4, 1 - 10**60), (0, 0, -1)]
        for x, y in itertools.product([LONG, -LONG, 10**60 - 1, 0, 1], repeat=2):
            self.assertEqual(worth(terms, x, y), plain_worth(terms, x, y))


class Counts(unittest.TestCase):
    def assertCounts(self, house, words=""):
        told = ranks_of(house)
        bases = [s for s, rank in enumerate(told) if rank == len(members(s)) == told[-1]]
        free = [s for s, rank in enumerate(told) if rank == len(members(s))]
        spanning = [s for s, rank in enumerate(told) if rank == told[-1]]
        found = counts(house)
        self.assertIs(type(found), tuple)
        self.assertEqual([type(part) for part in found], [int, int, int])
        self.assertEqual(found, (len(bases), len(free), len(spanning)), words)

    def test_by_hand(self):
        self.assertEqual(counts(House(0)), (1, 1, 1))
        self.assertEqual(counts(House(8)), (1, 1, 256))
        self.assertEqual(counts(Even(8, 8)), (1, 256, 1))
        self.assertEqual(counts(Even(4, 1)), (4, 5, 15))
        self.assertEqual(counts(Even(4, 3)), (4, 15, 5))

    def test_one_by_one(self):
        for label, house in HOUSES:
            self.assertCounts(house, label)

    def test_every_house_of_few_things(self):
        for n in range(5):
            for house in helper.small_houses(n):
                self.assertCounts(house)


def plain_colourings(points, ties, k):
    found = 0
    for colours in itertools.product(range(k), repeat=points):
        if all(colours[one] != colours[other] for one, other in ties):
            found += 1
    return found


class Colourings(unittest.TestCase):
    def test_by_hand(self):
        self.assertEqual(colourings(Net(0, 0, []), 0), 1)
        self.assertEqual(colourings(Net(0, 0, []), 5), 1)
        self.assertEqual(colourings(Net(0, 1, []), 0), 0)
        self.assertEqual(colourings(Net(0, 3, []), 2), 8)
        self.assertEqual(colourings(Net(0, 9, []), 10), 10**9)
        self.assertEqual(colourings(Net(1, 1, [(0, 0)]), 7), 0)
        self.assertEqual(colourings(Net(1, 2, [(0, 1)]), 1), 0)
        self.assertEqual(colourings(Net(1, 2, [(0, 1)]), 2), 2)
        self.assertEqual(colourings(Net(2, 2, [(0, 1), (1, 0)]), 3), 6)
        self.assertEqual(colourings(Net(3, 3, [(0, 1), (1, 2), (2, 0)]), 3), 6)
        self.assertEqual(colourings(Net(3, 3, [(0, 1), (1, 2), (2, 0)]), 2), 0)

    def test_one_by_one(self):
        numbers = helper.strewn(52)
        most = {0: 6, 1: 6, 2: 6, 3: 5, 4: 5, 5: 4, 6: 3, 7: 2, 8: 2, 9: 2}
        for points, colours in most.items():
            for n in range(9 if points else 1):
                ties = [(next(numbers) % points, next(numbers) % points) for tie in range(n)]
                parted = [(one, other if other != one else (one + 1) % points) for one, other in ties]
                for some in [ties, parted]:
                    net = Net(n, points, some)
                    for k in range(colours + 1):
                        plain = plain_colourings(points, some, k)
                        found = colourings(net, k)
                        self.assertEqual(found, plain, (points, some, k))
                        self.assertIs(type(found), int)

    def test_a_tie_of_a_point_to_itself(self):
        for k in [0, 1, 2, 9, LONG]:
            self.assertEqual(colourings(Net(3, 4, [(0, 1), (2, 2), (1, 2)]), k), 0)
            self.assertEqual(colourings(Net(8, 9, [(0, 1)] * 7 + [(8, 8)]), k), 0)

    def test_no_colours(self):
        for points in range(1, 10):
            self.assertEqual(colourings(Net(0, points, []), 0), 0)
            self.assertEqual(colourings(Net(1, points, [(0, points - 1)]), 0), 0)

    def test_known_forms(self):
        for k in [0, 1, 2, 3, 4, 5, 11, LONG, 10**60 - 1]:
            star = Net(8, 9, [(0, point) for point in range(1, 9)])
            self.assertEqual(colourings(star, k), k * (k - 1) ** 8)
            for points in range(2, 9):
                ring = Net(points, points, [(point, (point + 1) % points) for point in range(points)])
                self.assertEqual(colourings(ring, k), (k - 1) ** points + (-1) ** points * (k - 1))
            every = Net(6, 4, [(0, 1), (0, 2), (0, 3), (1, 2), (1, 3), (2, 3)])
            self.assertEqual(colourings(every, k), k * (k - 1) * (k - 2) * (k - 3))
            # Points that no tie ties are free to have any colour.
            apart = Net(6, 9, [(3, 4), (3, 5), (3, 6), (4, 5), (4, 6), (5, 6)])
            self.assertEqual(colourings(apart, k), k**6 * (k - 1) * (k - 2) * (k - 3))

    def test_by_the_polynomial(self):
        for label, net in helper.plain_houses():
            if isinstance(net, Net):
                whole, pieces = net.rank(2**net.many - 1), net.pieces(2**net.many - 1)
                told, ties = ranks_of(net), net.ties
                for k in [0, 1, 3, 10**30]:
                    plain = (-1) ** whole * k**pieces * worth(polynomial(net), 1 - k, 0)
                    self.assertEqual(colourings(net, k), plain, (label, k))
                self.assertEqual((ranks_of(net), net.ties), (told, ties))


if __name__ == "__main__":
    unittest.main()
