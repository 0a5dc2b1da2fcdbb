import unittest

import helper
from basehouse.breaks import broken_bases, broken_flats, broken_ranks, broken_rings
from basehouse.errors import HouseError, NoHouse
from basehouse.houses import Even, House, Listed
from basehouse.nets import Net
from basehouse.tellings import bases, closed, flats, frees, of_bases, of_flats, of_ranks, of_rings, ranks, rings
from basehouse.tellings import whole_rank
from basehouse.turned import Minor, Other, Side
from helper import members, outside, ranks_of, subsets

TOLD = [bases, frees, rings, flats, ranks]
LED_BACK = [(bases, of_bases, broken_bases), (rings, of_rings, broken_rings), (flats, of_flats, broken_flats),
            (ranks, of_ranks, broken_ranks)]
HOUSES = helper.all_houses()


class SetBySet:
    """All tellings of a house, from its ranks, as the point tells what they are."""

    def __init__(self, house):
        n = house.many
        self.ranks = told = ranks_of(house)
        self.sets = range(2**n)
        self.outside = [outside(n, s) for s in self.sets]
        free = [told[s] == len(members(s)) for s in self.sets]
        self.whole = told[2**n - 1]
        self.frees = [s for s in self.sets if free[s]]
        self.bases = [s for s in self.sets if free[s] and told[s] == self.whole]
        self.rings = [s for s in self.sets if not free[s] and all(free[s - 2**k] for k in members(s))]
        self.flats = [s for s in self.sets if all(told[s + 2**k] == told[s] + 1 for k in self.outside[s])]
        self.closed = [s + sum(2**k for k in self.outside[s] if told[s + 2**k] == told[s]) for s in self.sets]


class OfAnyHouse(unittest.TestCase):
    def test_set_by_set(self):
        for label, house in HOUSES:
            plain = SetBySet(house)
            for asked in range(2):
                self.assertEqual(whole_rank(house), plain.whole, label)
                self.assertEqual(bases(house), plain.bases, label)
                self.assertEqual(frees(house), plain.frees, label)
                self.assertEqual(rings(house), plain.rings, label)
                self.assertEqual(flats(house), plain.flats, label)
                self.assertEqual(ranks(house), plain.ranks, label)
            self.assertEqual([closed(house, s) for s in plain.sets], plain.closed, label)

    def test_each_sort_comes_with_0_to_8_things(self):
        sorts = {}
        for label, house in HOUSES:
            sorts.setdefault(type(house).__name__, set()).add(house.many)
        self.assertEqual(set(sorts), {"House", "Even", "Listed", "Tabled", "Net", "Other", "Minor", "Side"})
        for sort, many in sorts.items():
            self.assertEqual(many, set(range(9)), sort)

    def test_kinds_and_rising(self):
        for label, house in HOUSES:
            self.assertIs(type(whole_rank(house)), int)
            for ask in TOLD:
                told = ask(house)
                self.assertIs(type(told), list)
                self.assertTrue({type(part) for part in told} <= {int})
                if ask != ranks:
                    self.assertEqual(told, sorted(set(told)), (label, ask.__name__))
            self.assertEqual(len(ranks(house)), 2**house.many)
            self.assertIs(type(closed(house, 0)), int)

    def test_without_things(self):
        for house in [House(0), Even(0, 0), Listed(0, [0]), Net(0, 9, []), Other(House(0)), Side(House(0), House(0))]:
            self.assertEqual(whole_rank(house), 0)
            self.assertEqual([ask(house) for ask in TOLD], [[0], [0], [], [0], [0]])
            self.assertEqual(closed(house, 0), 0)

    def test_every_rank_nought(self):
        house = House(3)
        self.assertEqual(whole_rank(house), 0)
        self.assertEqual([ask(house) for ask in TOLD], [[0], [0], [1, 2, 4], [7], [0] * 8])
        self.assertEqual([closed(house, s) for s in range(8)], [7] * 8)

    def test_every_set_free(self):
        for n in range(9):
            every = list(range(2**n))
            house = Even(n, n)
            self.assertEqual(whole_rank(house), n)
            self.assertEqual([ask(house) for ask in TOLD[:4]], [[2**n - 1], every, [], every])
            self.assertEqual([closed(house, s) for s in every], every)

    def test_even_houses(self):
        for n in range(9):
            for k in range(n):
                house = Even(n, k)
                self.assertEqual(whole_rank(house), k)
                self.assertEqual(bases(house), subsets(n, k))
                self.assertEqual(frees(house), sorted(s for j in range(k + 1) for s in subsets(n, j)))
                self.assertEqual(rings(house), subsets(n, k + 1))
                self.assertEqual(flats(house), sorted(s for j in range(k) for s in subsets(n, j)) + [2**n - 1])

    def test_a_net_by_hand(self):
        # A three-way round of the things 0, 1, 2, thing 3 a tie out of it, thing 4 a point's tie to itself.
        house = Net(5, 4, [(0, 1), (1, 2), (2, 0), (2, 3), (3, 3)])
        self.assertEqual(whole_rank(house), 3)
        self.assertEqual(bases(house), [0b01011, 0b01101, 0b01110])
        self.assertEqual(rings(house), [0b00111, 0b10000])
        self.assertEqual(frees(house), [0, 1, 2, 3, 4, 5, 6, 8, 9, 10, 11, 12, 13, 14])
        self.assertEqual(flats(house), [16, 17, 18, 20, 23, 24, 25, 26, 28, 31])
        self.assertEqual(closed(house, 0), 16)
        self.assertEqual(closed(house, 0b00011), 0b10111)
        self.assertEqual(closed(house, 0b01001), 0b11001)

    def test_a_closure_is_the_least_flat_over_the_set(self):
        for label, house in HOUSES:
            if house.many <= 5:
                told = flats(house)
                for s in range(2**house.many):
                    self.assertEqual(closed(house, s), min(flat for flat in told if flat & s == s), label)

    def test_the_house_keeps_its_ranks(self):
        for label, house in HOUSES:
            told = ranks_of(house)
            for ask in TOLD:
                ask(house)
            self.assertEqual((ranks_of(house), 2**house.many), (told, len(told)))

    def test_a_told_list_that_is_changed_changes_no_later_answer(self):
        for label, house in HOUSES[::2]:
            for ask in TOLD:
                first = ask(house)
                kept = list(first)
                first.append(-5)
                first[0] = -7
                for other in TOLD:
                    other(house)
                self.assertEqual(ask(house), kept, (label, ask.__name__))
                self.assertEqual(first[0], -7)
                first.clear()
                self.assertEqual(ask(house), kept)

    def test_a_told_list_stays_as_it_is(self):
        house = Net(5, 4, [(0, 1), (1, 2), (2, 0), (2, 3), (3, 3)])
        lists = [ask(house) for ask in TOLD]
        kept = [list(told) for told in lists]
        for ask in TOLD:
            ask(Other(house))
            ask(house).reverse()
        closed(house, 3)
        self.assertEqual(lists, kept)


class LedBack(unittest.TestCase):
    def test_the_ranks_of_the_house(self):
        for label, house in HOUSES:
            told = ranks_of(house)
            for ask, lead, look in LED_BACK:
                made = lead(house.many, ask(house))
                self.assertIs(type(made), Listed)
                self.assertEqual(made.many, house.many)
                self.assertEqual(ranks_of(made), told, (label, lead.__name__))

    def test_they_have_just_what_was_told(self):
        for label, house in HOUSES[::3]:
            for ask, lead, look in LED_BACK:
                told = ask(house)
                self.assertEqual(ask(lead(house.many, told)), told, (label, lead.__name__))

    def test_by_hand(self):
        self.assertEqual(ranks_of(of_bases(2, [1, 2])), [0, 1, 1, 1])
        self.assertEqual(ranks_of(of_rings(2, [3])), [0, 1, 1, 1])
        self.assertEqual(ranks_of(of_flats(2, [0, 3])), [0, 1, 1, 1])
        self.assertEqual(ranks_of(of_ranks(2, [0, 1, 1, 1])), [0, 1, 1, 1])
        self.assertEqual(ranks_of(of_rings(3, [])), [0, 1, 1, 2, 1, 2, 2, 3])
        self.assertEqual(ranks_of(of_rings(2, [1, 2])), [0, 0, 0, 0])
        self.assertEqual(ranks_of(of_flats(2, [3])), [0, 0, 0, 0])
        self.assertEqual(ranks_of(of_flats(3, [2, 3, 6, 7])), [0, 1, 0, 1, 1, 2, 1, 2])

    def test_without_things(self):
        for lead, told in [(of_bases, [0]), (of_rings, []), (of_flats, [0]), (of_ranks, [0])]:
            made = lead(0, told)
            self.assertEqual((made.many, ranks_of(made)), (0, [0]))

    def test_every_list_of_up_to_three_things(self):
        for n in range(4):
            for sets in helper.lists_of_sets(n):
                for ask, lead, look in LED_BACK[:3]:
                    if look(n, sets) is None:
                        self.assertEqual(ask(lead(n, sets)), sets)
                    else:
                        self.assertRefused(lead, n, sets, look(n, sets))

    def assertRefused(self, lead, n, told, fields):
        kept = list(told)
        with self.assertRaises(NoHouse, msg=(lead.__name__, n, kept)) as taken:
            lead(n, told)
        e = taken.exception
        self.assertIsInstance(e, HouseError)
        self.assertEqual((e.one, e.other, e.thing), fields)
        self.assertEqual(told, kept)

    def test_refused_by_hand(self):
        self.assertRefused(of_bases, 3, [], (0, 0, -1))
        self.assertRefused(of_bases, 4, [3, 12], (3, 12, 0))
        self.assertRefused(of_bases, 2, [0, 1], (1, 0, 0))
        self.assertRefused(of_rings, 3, [0, 3], (0, 0, -1))
        self.assertRefused(of_rings, 3, [3, 7], (3, 7, -1))
        self.assertRefused(of_rings, 3, [3, 6], (3, 6, 1))
        self.assertRefused(of_ranks, 1, [1, 1], (0, 0, -1))
        self.assertRefused(of_ranks, 1, [0, 2], (0, 1, -1))
        self.assertRefused(of_ranks, 1, [0, -(10**59)], (0, 1, -1))
        self.assertRefused(of_ranks, 2, [0, 0, 0, 1], (1, 2, -1))
        self.assertRefused(of_flats, 0, [], (0, 0, -1))
        self.assertRefused(of_flats, 3, [0, 1], (7, 7, -1))
        self.assertRefused(of_flats, 3, [1, 2, 7], (1, 2, -1))
        self.assertRefused(of_flats, 3, [0, 4, 7], (0, 7, 2))

    def test_one_more_and_one_less(self):
        refused = 0
        for n, told in helper.some_bases()[::3]:
            house = Listed(n, told)
            for ask, lead, look in LED_BACK[:3]:
                sets = ask(house)
                other = list(helper.with_one_more(n, sets)) + list(helper.with_one_less(sets))
                for lists in other[:: len(other) // 8 + 1]:
                    found = look(n, lists)
                    if found is None:
                        self.assertEqual(ask(lead(n, lists)), lists)
                    else:
                        refused += 1
                        self.assertRefused(lead, n, lists, found)
        self.assertGreater(refused, 50)

    def test_other_ranks(self):
        for n, told in helper.some_bases()[::4]:
            right = ranks_of(Listed(n, told))
            for s in range(0, 2**n, 2**n // 6 + 1):
                for change in [-1, 1, 10**59]:
                    other = list(right)
                    other[s] += change
                    found = broken_ranks(n, other)
                    if found is None:
                        self.assertEqual(ranks_of(of_ranks(n, other)), other)
                    else:
                        self.assertRefused(of_ranks, n, other, found)

    def test_the_lists_handed_in_stay_and_may_change_later(self):
        for label, house in HOUSES[::4]:
            right = ranks_of(house)
            for ask, lead, look in LED_BACK:
                told = ask(house)
                kept = list(told)
                made = lead(house.many, told)
                self.assertEqual(told, kept)
                told.append(0)
                self.assertEqual(ranks_of(made), right)
                told.clear()
                self.assertEqual(ranks_of(made), right)

    def test_a_refusal_leaves_no_trace(self):
        for asked in range(2):
            self.assertRefused(of_bases, 4, [3, 12], (3, 12, 0))
            self.assertEqual(ranks_of(of_bases(4, [3, 5, 6])), ranks_of(Side(Even(3, 2), House(1))))

    def test_a_house_made_of_houses_is_led_back_too(self):
        house = Other(Side(Minor(Even(6, 3), 1, 2), Other(Net(4, 3, [(0, 1), (1, 2), (0, 2), (1, 1)]))))
        for ask, lead, look in LED_BACK:
            self.assertEqual(ranks_of(lead(8, ask(house))), ranks_of(house))


if __name__ == "__main__":
    unittest.main()
