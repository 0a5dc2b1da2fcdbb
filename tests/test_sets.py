import itertools
import unittest

from basehouse.sets import all_of, choices, less, lowest, parts, pressed, set_of, size, spread, things, within

EVERYTHING = 255
ALL = range(256)


def members(s):
    """The things of a set, found by worths rather than by bits."""
    found = []
    for k in range(8):
        if (s // 2**k) % 2 == 1:
            found.append(k)
    return found


def number(some):
    return sum(2**k for k in set(some))


def subsets(s):
    mine = members(s)
    return sorted(number(c) for k in range(len(mine) + 1) for c in itertools.combinations(mine, k))


class Told(unittest.TestCase):
    def assertKind(self, value, kind):
        self.assertIs(type(value), kind)

    def test_named_sets(self):
        self.assertEqual((size(0), things(0), lowest(0)), (0, [], None))
        self.assertEqual((size(EVERYTHING), things(EVERYTHING), lowest(EVERYTHING)), (8, [0, 1, 2, 3, 4, 5, 6, 7], 0))
        self.assertEqual((size(0b10110), things(0b10110), lowest(0b10110)), (3, [1, 2, 4], 1))
        self.assertEqual((size(128), things(128), lowest(128)), (1, [7], 7))

    def test_size_things_and_lowest_of_every_set(self):
        for s in ALL:
            mine = members(s)
            self.assertEqual(size(s), len(mine))
            self.assertEqual(things(s), mine)
            self.assertEqual(lowest(s), mine[0] if mine else None)

    def test_kinds(self):
        for s in [0, 1, 6, 128, EVERYTHING]:
            self.assertKind(size(s), int)
            self.assertKind(things(s), list)
            self.assertKind(set_of(members(s)), int)
            self.assertKind(parts(s), list)
            self.assertKind(choices(s, 1), list)
            self.assertKind(choices(s, 9), list)
            self.assertKind(within(s, 6), bool)
            self.assertKind(pressed(s, 6), int)
            self.assertKind(spread(s % 4, 6), int)
            for value in things(s) + parts(s) + choices(s, 1):
                self.assertKind(value, int)
        self.assertIsNone(lowest(0))
        self.assertKind(lowest(1), int)
        self.assertKind(lowest(6), int)

    def test_set_of_leads_back_from_things(self):
        for s in ALL:
            self.assertEqual(set_of(members(s)), s)

    def test_set_of_in_any_order(self):
        for order in itertools.permutations([0, 3, 5, 7]):
            self.assertEqual(set_of(list(order)), 1 + 8 + 32 + 128)

    def test_set_of_counts_a_thing_once(self):
        self.assertEqual(set_of([2, 2]), 4)
        self.assertEqual(set_of([7, 0, 7, 0, 0]), 129)
        self.assertEqual(set_of([0, 0]), 1)
        self.assertEqual(set_of(list(range(8)) * 3), EVERYTHING)

    def test_set_of_nothing(self):
        self.assertEqual(set_of([]), 0)

    def test_within_for_every_two_sets(self):
        for s in ALL:
            for t in ALL:
                self.assertIs(within(s, t), set(members(s)) <= set(members(t)))

    def test_parts_by_hand(self):
        self.assertEqual(parts(0), [0])
        self.assertEqual(parts(0b1010), [0, 2, 8, 10])
        self.assertEqual(parts(EVERYTHING), list(ALL))

    def test_parts_of_every_set(self):
        for s in ALL:
            self.assertEqual(parts(s), subsets(s))

    def test_choices_by_hand(self):
        self.assertEqual(choices(0, 0), [0])
        self.assertEqual(choices(0, 1), [])
        self.assertEqual(choices(0b11010, 2), [0b01010, 0b10010, 0b11000])
        self.assertEqual(choices(EVERYTHING, 8), [EVERYTHING])
        self.assertEqual(choices(EVERYTHING, 9), [])
        self.assertEqual(choices(EVERYTHING, 1), [1, 2, 4, 8, 16, 32, 64, 128])

    def test_choices_of_every_set(self):
        for s in ALL:
            for k in range(10):
                mine = sorted(number(c) for c in itertools.combinations(members(s), k))
                self.assertEqual(choices(s, k), mine)

    def test_all_of(self):
        for n in range(9):
            self.assertEqual(all_of(n), number(range(n)))

    def test_less_for_every_two_sets(self):
        for s in ALL:
            for t in ALL:
                self.assertEqual(less(s, t), number(set(members(s)) - set(members(t))))


class ListsStayTheirOwners(unittest.TestCase):
    def test_a_list_handed_in_stays_as_it_was(self):
        some = [5, 1, 1, 7, 0]
        set_of(some)
        self.assertEqual(some, [5, 1, 1, 7, 0])

    def test_a_list_changed_behind_the_call(self):
        some = [0, 1]
        s = set_of(some)
        some.append(2)
        self.assertEqual(s, 3)

    def assertOwn(self, ask):
        first = ask()
        kept = list(first)
        first.append(99)
        first[0] = 77
        second = ask()
        self.assertEqual(second, kept)
        self.assertEqual(first[0], 77)
        self.assertEqual(first[-1], 99)
        self.assertIsNot(first, second)

    def test_a_told_list_that_is_changed_changes_no_later_answer(self):
        for s in [1, 0b10110, EVERYTHING]:
            self.assertOwn(lambda: things(s))
            self.assertOwn(lambda: parts(s))
            self.assertOwn(lambda: choices(s, 0))
            self.assertOwn(lambda: choices(s, 1))
        self.assertOwn(lambda: parts(0))
        self.assertOwn(lambda: choices(0, 0))

    def test_told_empty_lists_too(self):
        for ask in [lambda: things(0), lambda: choices(3, 3), lambda: choices(0, 9)]:
            ask().append(99)
            self.assertEqual(ask(), [])

    def test_a_changed_list_changes_no_other_answer(self):
        things(6).clear()
        parts(6).clear()
        self.assertEqual((size(6), lowest(6), choices(6, 1), pressed(6, 6), spread(3, 6)), (2, 1, [2, 4], 3, 6))


class PressedAndSpread(unittest.TestCase):
    def test_pressed_by_hand(self):
        self.assertEqual(pressed(0b10010, 0b11010), 0b101)
        self.assertEqual(pressed(0b00101, 0b11010), 0)
        self.assertEqual(pressed(0b11111, 0b11010), 0b111)
        self.assertEqual(pressed(128, 128), 1)

    def test_spread_by_hand(self):
        self.assertEqual(spread(0b101, 0b11010), 0b10010)
        self.assertEqual(spread(0, 0b11010), 0)
        self.assertEqual(spread(0b111, 0b11010), 0b11010)
        self.assertEqual(spread(1, 128), 128)

    def test_kept_empty(self):
        for s in ALL:
            self.assertEqual(pressed(s, 0), 0)
        self.assertEqual(spread(0, 0), 0)

    def test_kept_everything(self):
        for s in ALL:
            self.assertEqual(pressed(s, EVERYTHING), s)
            self.assertEqual(spread(s, EVERYTHING), s)

    def test_pressed_for_every_two_sets(self):
        for kept in ALL:
            order = members(kept)
            for s in ALL:
                self.assertEqual(pressed(s, kept), number(order.index(k) for k in members(s) if k in order))

    def test_spread_for_every_two_sets(self):
        for kept in ALL:
            order = members(kept)
            for s in range(2 ** len(order)):
                self.assertEqual(spread(s, kept), number(order[j] for j in members(s)))

    def test_spread_and_pressed_again(self):
        for kept in ALL:
            for s in range(2 ** len(members(kept))):
                self.assertEqual(pressed(spread(s, kept), kept), s)

    def test_pressed_and_spread_again_is_what_is_in_common(self):
        for kept in ALL:
            for s in ALL:
                self.assertEqual(spread(pressed(s, kept), kept), number(set(members(s)) & set(members(kept))))


if __name__ == "__main__":
    unittest.main()
