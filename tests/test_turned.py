import itertools
import unittest

import helper
from basehouse.houses import Even, House, Listed
from basehouse.nets import Net
from basehouse.sets import pressed, spread
from basehouse.tables import Tabled
from basehouse.turned import Minor, Other, Side
from helper import bases_of, members, minor_ranks, other_ranks, ranks_of, side_ranks, two_sets


class Turned(unittest.TestCase):
    def assertHouse(self, house, told, words=""):
        n = house.many
        self.assertIsInstance(house, House)
        self.assertIs(type(n), int)
        self.assertEqual(2**n, len(told), words)
        self.assertEqual(house.everything(), 2**n - 1)
        for asked in range(2):
            self.assertEqual(ranks_of(house), told, words)
        self.assertEqual({type(rank) for rank in ranks_of(house)}, {int})


class OtherHouse(Turned):
    def test_by_hand(self):
        self.assertHouse(Other(House(0)), [0])
        self.assertHouse(Other(House(2)), [0, 1, 1, 2])
        self.assertHouse(Other(Even(2, 2)), [0, 0, 0, 0])
        self.assertHouse(Other(Even(3, 1)), [0, 1, 1, 2, 1, 2, 2, 2])
        self.assertHouse(Other(Listed(3, [1, 2])), [0, 1, 1, 1, 1, 2, 2, 2])

    def test_every_sort(self):
        for label, house in helper.all_houses():
            self.assertHouse(Other(house), other_ranks(ranks_of(house)), label)

    def test_the_rank_by_the_points_own_rule(self):
        for label, house in helper.all_houses():
            e = 2**house.many - 1
            told = [len(members(s)) + house.rank(e - s) - house.rank(e) for s in range(e + 1)]
            self.assertEqual(ranks_of(Other(house)), told, label)

    def test_its_bases_are_what_the_bases_leave_out(self):
        for label, house in helper.all_houses():
            left_out = sorted(2**house.many - 1 - base for base in bases_of(house))
            self.assertEqual(bases_of(Other(house)), left_out, label)

    def test_the_others_other(self):
        for label, house in helper.all_houses():
            self.assertHouse(Other(Other(house)), ranks_of(house), label)

    def test_the_house_keeps_its_own(self):
        for label, house in helper.all_houses():
            told, many = ranks_of(house), house.many
            ranks_of(Other(house))
            self.assertEqual((ranks_of(house), house.many), (told, many), label)

    def test_even_houses(self):
        for n in range(9):
            for k in range(n + 1):
                self.assertHouse(Other(Even(n, k)), ranks_of(Even(n, n - k)))


class MinorHouse(Turned):
    def test_by_hand(self):
        house = Net(4, 4, [(0, 1), (1, 2), (2, 0), (2, 3)])
        self.assertHouse(Minor(house, 0b0001, 0), [0, 1, 1, 2, 1, 2, 2, 3])
        self.assertHouse(Minor(house, 0, 0b0001), [0, 1, 1, 1, 1, 2, 2, 2])
        self.assertHouse(Minor(house, 0b1000, 0b0011), [0, 0])
        self.assertHouse(Minor(house, 0b0011, 0b0100), [0, 1])
        self.assertHouse(Minor(house, 0, 0), ranks_of(house))
        self.assertHouse(Minor(house, 15, 0), [0])
        self.assertHouse(Minor(house, 0, 15), [0])

    def test_the_numbering_anew(self):
        # Thing 1 has rank 0, thing 3 is in every base.
        house = Listed(5, [0b01001, 0b01100, 0b11000])
        self.assertHouse(Minor(house, 0b00001, 0), minor_ranks(ranks_of(house), 0b00001, 0))
        self.assertEqual([Minor(house, 0b00001, 0).rank(2**k) for k in range(4)], [0, 1, 1, 1])
        self.assertEqual([Minor(house, 0b00101, 0).rank(2**k) for k in range(3)], [0, 1, 1])
        self.assertEqual([Minor(house, 0, 0b01000).rank(2**k) for k in range(4)], [1, 0, 1, 1])
        self.assertEqual([Minor(house, 0b10000, 0b00001).rank(2**k) for k in range(3)], [0, 0, 1])

    def test_all_two_sets_of_small_houses(self):
        for label, house in helper.all_houses():
            if house.many <= 4:
                told = ranks_of(house)
                for out, drawn in two_sets(house.many):
                    self.assertHouse(Minor(house, out, drawn), minor_ranks(told, out, drawn), (label, out, drawn))
                self.assertEqual(ranks_of(house), told)

    def test_some_two_sets_of_every_house(self):
        numbers = helper.strewn(17)
        for label, house in helper.all_houses():
            told = ranks_of(house)
            e = len(told) - 1
            out = next(numbers) % (e + 1)
            for sets in [(0, 0), (e, 0), (0, e), (out, e - out), (out, 0), (0, out), (e & 0x55, e & 0x22)]:
                self.assertHouse(Minor(house, sets[0], sets[1]), minor_ranks(told, sets[0], sets[1]), (label, sets))
            self.assertEqual(ranks_of(house), told)

    def test_spread_and_pressed_number_the_same_way(self):
        house = Tabled(8, 0, [[1, 2, 3, 0, 1, 0, 4, 5], [0, 1, 1, 0, 1, 1, 2, 2], [1, 1, 2, 0, 0, 1, 0, 1]])
        for out, drawn in [(0b00010010, 0b10000001), (0, 0b01000000), (0b11100000, 0), (0b1000, 0b0100)]:
            kept = 255 - out - drawn
            minor = Minor(house, out, drawn)
            for s in range(2**minor.many):
                self.assertEqual(minor.rank(s), house.rank(spread(s, kept) + drawn) - house.rank(drawn))
            for s in range(256):
                told = house.rank((s & kept) + drawn) - house.rank(drawn)
                self.assertEqual(minor.rank(pressed(s, kept)), told)

    def test_in_one_step_and_in_two(self):
        numbers = helper.strewn(18)
        for label, house in helper.plain_houses():
            e = 2**house.many - 1
            out, drawn = next(numbers) & e & 0b10110101, next(numbers) & e & 0b01001010
            told = ranks_of(Minor(house, out, drawn))
            self.assertHouse(Minor(Minor(house, out, 0), 0, pressed(drawn, e - out)), told, label)
            self.assertHouse(Minor(Minor(house, 0, drawn), pressed(out, e - drawn), 0), told, label)
            half = out & 0b00110001
            self.assertHouse(Minor(Minor(house, half, drawn), pressed(out - half, e - half - drawn), 0), told, label)

    def test_what_is_taken_out_here_is_drawn_together_there(self):
        for label, house in helper.all_houses():
            if house.many <= 5:
                for out, drawn in two_sets(min(house.many, 4)):
                    one, other = Other(Minor(house, out, drawn)), Minor(Other(house), drawn, out)
                    self.assertEqual(ranks_of(one), ranks_of(other), (label, out, drawn))
        for house in [Even(8, 3), Net(8, 9, [(k, k // 2) for k in range(8)]), Listed(8, [7, 11, 13])]:
            for out, drawn in [(1, 2), (0b11, 0b1100), (0b10000001, 0b01010000)]:
                self.assertEqual(ranks_of(Other(Minor(house, out, drawn))), ranks_of(Minor(Other(house), drawn, out)))


class SideBySide(Turned):
    def test_by_hand(self):
        self.assertHouse(Side(House(0), House(0)), [0])
        self.assertHouse(Side(Even(1, 1), House(1)), [0, 1, 0, 1])
        self.assertHouse(Side(House(1), Even(1, 1)), [0, 0, 1, 1])
        self.assertHouse(Side(Even(2, 1), Even(1, 1)), [0, 1, 1, 1, 1, 2, 2, 2])
        self.assertHouse(Side(Even(1, 1), Even(2, 1)), [0, 1, 1, 2, 1, 2, 1, 2])

    def test_each_two_of_some(self):
        some = [(label, house) for label, house in helper.all_houses() if house.many <= 4][::5]
        for (label, one), (other_label, other) in itertools.product(some, some):
            told = side_ranks(ranks_of(one), ranks_of(other))
            self.assertHouse(Side(one, other), told, (label, other_label))

    def test_together_eight_things(self):
        for n in range(9):
            for one in [Even(n, n // 2), House(n), Net(n, 4, [(k % 4, k // 4) for k in range(n)])]:
                for other in [Even(8 - n, 1 if n < 8 else 0), Listed(8 - n, [2 ** (8 - n) - 1])]:
                    told = side_ranks(ranks_of(one), ranks_of(other))
                    self.assertEqual(Side(one, other).many, 8)
                    self.assertHouse(Side(one, other), told)

    def test_one_of_them_without_things(self):
        for label, house in helper.all_houses():
            self.assertHouse(Side(house, House(0)), ranks_of(house), label)
            self.assertHouse(Side(Net(0, 5, []), house), ranks_of(house), label)

    def test_a_house_beside_itself(self):
        house = Net(4, 3, [(0, 1), (1, 2), (2, 0), (1, 1)])
        self.assertHouse(Side(house, house), side_ranks(ranks_of(house), ranks_of(house)))

    def test_either_way(self):
        one, other = Even(3, 1), Net(4, 3, [(0, 1), (1, 2), (2, 0), (1, 1)])
        self.assertHouse(Side(one, other), side_ranks(ranks_of(one), ranks_of(other)))
        self.assertHouse(Side(other, one), side_ranks(ranks_of(other), ranks_of(one)))
        self.assertNotEqual(ranks_of(Side(one, other)), ranks_of(Side(other, one)))

    def test_the_houses_keep_their_own(self):
        one, other = Even(3, 1), Even(4, 3)
        ranks_of(Side(one, other))
        self.assertEqual((one.many, other.many), (3, 4))
        self.assertEqual((ranks_of(one), ranks_of(other)), (ranks_of(Even(3, 1)), ranks_of(Even(4, 3))))

    def test_the_other_house_of_two_side_by_side(self):
        one, other = Even(3, 1), Net(5, 4, [(0, 1), (1, 2), (2, 0), (1, 1), (0, 3)])
        self.assertEqual(ranks_of(Other(Side(one, other))), ranks_of(Side(Other(one), Other(other))))


class Deep(Turned):
    def test_up_to_six_deep(self):
        numbers = helper.strewn(19)
        for label, house in helper.plain_houses()[::2]:
            told = ranks_of(house)
            for deep in range(6):
                house, told = helper.deeper(house, told, numbers)
                self.assertHouse(house, told, label)

    def test_six_deep_of_one_sort(self):
        start = Listed(8, [s for s in helper.subsets(8, 4) if s not in (15, 240, 51)])
        told = ranks_of(start)
        house = start
        for deep in range(6):
            house = Other(house)
        self.assertHouse(house, told)
        house = start
        for deep in range(6):
            house = Minor(house, 0, 0)
        self.assertHouse(house, told)
        house, plain = start, told
        for deep in range(6):
            house, plain = Minor(house, 1 - deep % 2, deep % 2 * 2), minor_ranks(plain, 1 - deep % 2, deep % 2 * 2)
        self.assertHouse(house, plain)
        house, plain = Even(2, 1), ranks_of(Even(2, 1))
        for deep in range(6):
            house, plain = Side(house, Even(1, deep % 2)), side_ranks(plain, ranks_of(Even(1, deep % 2)))
        self.assertHouse(house, plain)

    def test_what_is_done_with_a_house_behind_the_call_changes_nothing(self):
        for make in [Other, lambda h: Minor(h, 1, 2), lambda h: Side(h, Even(2, 1)), lambda h: Side(Even(2, 1), h)]:
            for inner in [lambda: Even(4, 2), lambda: Other(Even(4, 1)), lambda: Side(Even(2, 1), Even(2, 2))]:
                house = inner()
                made = make(house)
                told = ranks_of(made)
                ranks_of(house)
                ranks_of(Other(house))
                house.many = 1
                self.assertEqual(ranks_of(made), told)


if __name__ == "__main__":
    unittest.main()
