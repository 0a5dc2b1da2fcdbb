import itertools
import unittest

import helper
from basehouse.breaks import broken_bases, broken_flats, broken_ranks, broken_rings
from helper import members, subsets

LOOKS = [(broken_bases, helper.plain_bases), (broken_rings, helper.plain_rings), (broken_flats, helper.plain_flats)]
HOUSES = [(n, bases) + helper.tellings_by(n, bases) for n, bases in helper.some_bases()]


def few(lists, many):
    """At most so many of the lists, from all over them."""
    lists = list(lists)
    return lists[:: len(lists) // many + 1]


class Breaks(unittest.TestCase):
    def assertBreak(self, look, plain, n, told):
        kept = list(told)
        found = look(n, told)
        self.assertEqual(found, plain(n, told), (look.__name__, n, kept))
        self.assertEqual(told, kept)
        if found is not None:
            self.assertIs(type(found), tuple)
            self.assertEqual([type(part) for part in found], [int, int, int])


class Searched(Breaks):
    def test_every_list_of_sets_of_up_to_three_things(self):
        for look, plain in LOOKS:
            for n in range(4):
                for sets in helper.lists_of_sets(n):
                    self.assertBreak(look, plain, n, sets)

    def test_strewn_lists_of_sets(self):
        for look, plain in LOOKS:
            for n, many in [(4, 200), (5, 60), (6, 20)]:
                for sets in helper.strewn_lists(n, many, n):
                    self.assertBreak(look, plain, n, sets)
                    self.assertBreak(look, plain, n, [s for s in sets if s != 0])
                    self.assertBreak(look, plain, n, sorted(set(sets) | {2**n - 1}))

    def test_strewn_lists_of_sets_with_equally_many_things(self):
        for look, plain in LOOKS:
            for n in range(4, 7):
                for k in range(1, n):
                    for keep in [2, 3, 5]:
                        numbers = helper.strewn(n * 100 + k * 10 + keep)
                        sets = [s for s in subsets(n, k) if next(numbers) % keep != 0]
                        self.assertBreak(look, plain, n, sets)

    def test_strewn_lists_with_all_that_is_in_common(self):
        for n, turns in [(4, 100), (5, 40), (6, 10)]:
            for sets in helper.strewn_lists(n, turns, 70 + n):
                closed = {2**n - 1}
                for s in sets[::3]:
                    closed |= {s & t for t in closed}
                self.assertBreak(broken_flats, helper.plain_flats, n, sorted(closed))

    def test_ranks_of_up_to_three_things(self):
        for ranks in itertools.product(range(-1, 3)):
            self.assertBreak(broken_ranks, helper.plain_ranks, 0, list(ranks))
        for n, numbers in [(1, range(-2, 4)), (2, range(-1, 4))]:
            for ranks in itertools.product(numbers, repeat=2**n):
                self.assertBreak(broken_ranks, helper.plain_ranks, n, list(ranks))
        for ranks in itertools.product(range(3), repeat=7):
            self.assertBreak(broken_ranks, helper.plain_ranks, 3, [0] + list(ranks))

    def test_ranks_that_step_by_0_or_1(self):
        # Whatever sets are made free, a set's greatest free part goes up by at most one at a step.
        for n, turns in [(3, 200), (4, 100), (5, 15)]:
            for sets in helper.strewn_lists(n, turns, 50 + n):
                free = {part for s in sets for part in range(2**n) if part & s == part} | {0}
                ranks = [max(len(members(part)) for part in free if part & s == part) for s in range(2**n)]
                self.assertBreak(broken_ranks, helper.plain_ranks, n, ranks)

    def test_as_many_lists_without_a_break_as_houses(self):
        for n, many in enumerate(helper.HOUSES[:5]):
            lists = list(helper.lists_of_sets(n))
            for look in [broken_bases, broken_rings, broken_flats]:
                self.assertEqual(sum(look(n, sets) is None for sets in lists), many)
        for n, many in enumerate(helper.HOUSES[:4]):
            lists = itertools.product(range(n + 1), repeat=2**n)
            if n == 3:
                lists = ((0,) + rest for rest in itertools.product(range(4), repeat=7))
            self.assertEqual(sum(broken_ranks(n, list(ranks)) is None for ranks in lists), many)


class OfHouses(Breaks):
    def test_houses_have_no_break(self):
        for n, bases, ranks, rings, flats in HOUSES:
            self.assertIsNone(broken_bases(n, bases))
            self.assertIsNone(broken_ranks(n, ranks))
            self.assertIsNone(broken_rings(n, rings))
            self.assertIsNone(broken_flats(n, flats))

    def test_one_more_and_one_less(self):
        for n, bases, ranks, rings, flats in HOUSES:
            for (look, plain), sets in zip(LOOKS, [bases, rings, flats]):
                if len(sets) > 70:
                    continue
                many = 300 if n < 5 else 12 if n < 7 else 3
                for other in few(helper.with_one_more(n, sets), many) + few(helper.with_one_less(sets), many):
                    self.assertBreak(look, plain, n, other)

    def test_another_rank(self):
        for n, bases, ranks, rings, flats in HOUSES:
            if n > 5:
                continue
            for s in range(2**n):
                for change in [-1, 1]:
                    other = list(ranks)
                    other[s] += change
                    self.assertBreak(broken_ranks, helper.plain_ranks, n, other)


class Bases(Breaks):
    def test_the_empty_list(self):
        for n in range(9):
            self.assertEqual(broken_bases(n, []), (0, 0, -1))

    def test_one_set(self):
        for n in range(9):
            for s in range(2**n):
                self.assertIsNone(broken_bases(n, [s]))

    def test_all_sets_of_k_things(self):
        for n in range(9):
            for k in range(n + 1):
                self.assertIsNone(broken_bases(n, subsets(n, k)))

    def test_one_more_than_all_sets_of_k_things(self):
        self.assertEqual(broken_bases(8, [0] + subsets(8, 1)), (1, 0, 0))
        self.assertEqual(broken_bases(8, subsets(8, 7) + [255]), (255, 127, 7))
        self.assertEqual(broken_bases(8, sorted([7] + subsets(8, 2))), (7, 3, 2))
        self.assertEqual(broken_bases(4, sorted([1] + subsets(4, 3))), (1, 14, 0))

    def test_one_less_than_all_sets_of_k_things_is_a_house(self):
        for n in range(2, 9):
            for k in range(1, n):
                self.assertIsNone(broken_bases(n, subsets(n, k)[1:]))

    def test_unlike_many_things(self):
        self.assertEqual(broken_bases(2, [0, 1]), (1, 0, 0))
        self.assertEqual(broken_bases(2, [0, 3]), (3, 0, 0))
        self.assertEqual(broken_bases(2, [1, 3]), (3, 1, 1))
        self.assertEqual(broken_bases(8, list(range(256))), (1, 0, 0))

    def test_the_first_of_several(self):
        # Apart, neither thing of 3 comes to anything in 12 or back.
        self.assertEqual(broken_bases(4, [3, 12]), (3, 12, 0))
        # 3 has no break with 5, so its first is with 12.
        self.assertEqual(broken_bases(4, [3, 5, 12]), (3, 12, 0))
        self.assertEqual(broken_bases(4, [5, 6, 9, 12]), (6, 9, 2))
        self.assertEqual(broken_bases(4, [5, 6, 9, 10]), None)
        self.assertEqual(broken_bases(4, [3, 5, 9, 12]), (3, 12, 0))
        self.assertEqual(broken_bases(4, [3, 6, 12]), (3, 12, 1))
        self.assertEqual(broken_bases(8, [3, 12, 48, 192]), (3, 12, 0))
        self.assertEqual(broken_bases(8, [15, 240]), (15, 240, 0))

    def test_the_empty_set_alone(self):
        for n in range(9):
            self.assertIsNone(broken_bases(n, [0]))


class Rings(Breaks):
    def test_the_empty_list(self):
        for n in range(9):
            self.assertIsNone(broken_rings(n, []))

    def test_the_empty_set_in_the_list(self):
        for n in range(9):
            self.assertEqual(broken_rings(n, [0]), (0, 0, -1))
            self.assertEqual(broken_rings(n, list(range(2**n))), (0, 0, -1))

    def test_one_ring(self):
        for s in range(1, 256):
            self.assertIsNone(broken_rings(8, [s]))

    def test_a_set_within_another(self):
        self.assertEqual(broken_rings(2, [1, 3]), (1, 3, -1))
        self.assertEqual(broken_rings(3, [2, 3, 4, 7]), (2, 3, -1))
        self.assertEqual(broken_rings(4, [3, 5, 6, 9, 13, 15]), (3, 15, -1))
        self.assertEqual(broken_rings(4, [6, 9, 13, 15]), (6, 15, -1))
        self.assertEqual(broken_rings(8, list(range(1, 256))), (1, 3, -1))
        # It comes ahead of two rings that lack a third, though these are less.
        self.assertEqual(broken_rings(5, [3, 5, 8, 24]), (8, 24, -1))

    def test_no_ring_within_the_rest(self):
        self.assertEqual(broken_rings(3, [3, 5]), (3, 5, 0))
        self.assertEqual(broken_rings(3, [3, 6]), (3, 6, 1))
        self.assertEqual(broken_rings(5, [7, 28]), (7, 28, 2))
        self.assertEqual(broken_rings(5, [7, 11]), (7, 11, 0))
        # Without 0 the ring 14 is left; without 1 there is none.
        self.assertEqual(broken_rings(5, [7, 11, 14]), (7, 11, 1))
        self.assertEqual(broken_rings(8, [3, 12, 20]), (12, 20, 2))

    def test_rings_apart(self):
        self.assertIsNone(broken_rings(8, [3, 12, 48, 192]))
        self.assertIsNone(broken_rings(8, [1, 2, 4, 8, 16, 32, 64, 128]))

    def test_all_sets_of_k_things(self):
        for n in range(9):
            for k in range(1, n + 1):
                self.assertIsNone(broken_rings(n, subsets(n, k)))

    def test_one_ring_more_and_one_less(self):
        self.assertEqual(broken_rings(3, [3, 5, 6, 7]), (3, 7, -1))
        self.assertEqual(broken_rings(3, [3, 5]), (3, 5, 0))
        self.assertEqual(broken_rings(8, subsets(8, 2)[1:]), (5, 6, 2))


class Ranks(Breaks):
    def test_the_first_number_is_not_0(self):
        for n in range(9):
            for first in [1, -1, 7, 10**59, -(10**59)]:
                self.assertEqual(broken_ranks(n, [first] * 2**n), (0, 0, -1))
                self.assertEqual(broken_ranks(n, [first] + [0] * (2**n - 1)), (0, 0, -1))

    def test_all_noughts(self):
        for n in range(9):
            self.assertIsNone(broken_ranks(n, [0] * 2**n))

    def test_the_number_of_things(self):
        for n in range(9):
            for k in range(n + 1):
                self.assertIsNone(broken_ranks(n, [min(k, len(members(s))) for s in range(2**n)]))

    def test_a_wrong_step(self):
        for number in [2, -1, 10**59, -(10**59), 10**60 - 1, 1 - 10**60]:
            self.assertEqual(broken_ranks(1, [0, number]), (0, 1, -1))
            self.assertEqual(broken_ranks(2, [0, 0, 0, number]), (1, 3, -1))
            self.assertEqual(broken_ranks(2, [0, 0, number, 0]), (0, 2, -1))
            self.assertEqual(broken_ranks(8, [0] * 255 + [number]), (127, 255, -1))
        self.assertEqual(broken_ranks(2, [0, 1, 1, 0]), (1, 3, -1))
        self.assertEqual(broken_ranks(2, [0, 1, 0, 0]), (1, 3, -1))
        self.assertEqual(broken_ranks(2, [0, 1, 0, 2]), (2, 3, -1))
        self.assertEqual(broken_ranks(2, [0, 1, 1, 3]), (1, 3, -1))

    def test_the_first_of_several_wrong_steps(self):
        self.assertEqual(broken_ranks(3, [0, 0, 0, 2, 0, 2, 2, 2]), (1, 3, -1))
        self.assertEqual(broken_ranks(3, [0, 1, 0, 1, 5, 1, 1, 9]), (0, 4, -1))

    def test_two_things_that_add_something_together_alone(self):
        self.assertEqual(broken_ranks(2, [0, 0, 0, 1]), (1, 2, -1))
        self.assertEqual(broken_ranks(3, [0, 1, 1, 1, 1, 1, 1, 2]), (3, 5, -1))
        self.assertEqual(broken_ranks(3, [0, 0, 1, 1, 0, 1, 1, 1]), (1, 4, -1))

    def test_a_wrong_step_comes_ahead(self):
        self.assertEqual(broken_ranks(3, [0, 0, 0, 1, 0, 0, 0, 3]), (3, 7, -1))

    def test_of_eight_things(self):
        ranks = [min(4, len(members(s))) for s in range(256)]
        for s, told in [(15, None), (240, None), (7, (7, 15, -1)), (31, (15, 31, -1))]:
            other = list(ranks)
            other[s] -= 1
            self.assertEqual(broken_ranks(8, other), told)
        other = list(ranks)
        other[15] = other[23] = 3
        self.assertEqual(broken_ranks(8, other), (15, 23, -1))


class Flats(Breaks):
    def test_everything_is_not_in_the_list(self):
        for n in range(9):
            e = 2**n - 1
            self.assertEqual(broken_flats(n, []), (e, e, -1))
            self.assertEqual(broken_flats(n, list(range(e))), (e, e, -1))

    def test_everything_alone(self):
        for n in range(9):
            self.assertIsNone(broken_flats(n, [2**n - 1]))

    def test_no_things(self):
        self.assertEqual(broken_flats(0, []), (0, 0, -1))
        self.assertIsNone(broken_flats(0, [0]))

    def test_all_sets(self):
        for n in range(9):
            self.assertIsNone(broken_flats(n, list(range(2**n))))

    def test_what_is_in_common_is_not_in_the_list(self):
        self.assertEqual(broken_flats(2, [1, 2, 3]), (1, 2, -1))
        self.assertEqual(broken_flats(3, [0, 3, 5, 7]), (3, 5, -1))
        self.assertEqual(broken_flats(3, [0, 3, 5, 6, 7]), (3, 5, -1))
        self.assertEqual(broken_flats(4, [0, 1, 3, 5, 6, 15]), (3, 6, -1))
        self.assertEqual(broken_flats(4, [3, 12, 15]), (3, 12, -1))
        self.assertEqual(broken_flats(8, list(range(1, 256))), (1, 2, -1))

    def test_the_third_sort(self):
        # Over the empty set and thing 1 lies 3, in which thing 0 has a lesser flat.
        self.assertEqual(broken_flats(2, [0, 1, 3]), (0, 3, 0))
        self.assertEqual(broken_flats(3, [0, 1, 6, 7]), None)
        self.assertEqual(broken_flats(3, [0, 1, 2, 7]), (0, 7, 0))
        self.assertEqual(broken_flats(3, [0, 4, 7]), (0, 7, 2))
        self.assertEqual(broken_flats(3, [1, 3, 7]), (1, 7, 1))
        self.assertEqual(broken_flats(4, [0, 1, 2, 3, 4, 8, 15]), (1, 15, 1))
        self.assertEqual(broken_flats(8, [0, 1, 255]), (0, 255, 0))
        self.assertEqual(broken_flats(8, [0, 128, 255]), (0, 255, 7))

    def test_the_least_other_of_the_third_sort(self):
        # Over the empty set lie 3 (with thing 1) and 15 (with thing 3); both have things with a lesser flat.
        self.assertEqual(broken_flats(4, [0, 1, 3, 4, 7, 15]), (0, 3, 0))

    def test_one_more_and_one_less(self):
        self.assertEqual(broken_flats(3, [0, 1, 2, 3, 4, 7]), (1, 7, 1))
        self.assertEqual(broken_flats(3, [0, 1, 2, 7]), (0, 7, 0))
        every = list(range(256))
        self.assertEqual(broken_flats(8, [s for s in every if s != 254]), (126, 255, 0))
        self.assertEqual(broken_flats(8, [s for s in every if s != 1]), (3, 5, -1))


if __name__ == "__main__":
    unittest.main()
