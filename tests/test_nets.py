import itertools
import unittest

import helper
from basehouse.houses import House
from basehouse.nets import Net
from helper import members, ranks_of


def plain_pieces(points, ties, s):
    """By ways along ties, from each point as far as they lead."""
    found = set()
    for point in range(points):
        reached = {point}
        while True:
            more = {b for k in members(s) for a, b in [ties[k], ties[k][::-1]] if a in reached} | reached
            if more == reached:
                break
            reached = more
        found.add(frozenset(reached))
    return len(found)


class Nets(unittest.TestCase):
    def assertNet(self, points, ties):
        n = len(ties)
        kept = list(ties)
        net = Net(n, points, ties)
        self.assertIsInstance(net, House)
        self.assertEqual((net.many, net.everything()), (n, 2**n - 1))
        told = [plain_pieces(points, kept, s) for s in range(2**n)]
        for asked in range(2):
            self.assertEqual([net.pieces(s) for s in range(2**n)], told, (points, kept))
            self.assertEqual(ranks_of(net), [points - pieces for pieces in told])
        self.assertEqual({type(net.pieces(s)) for s in range(2**n)}, {int})
        self.assertEqual({type(rank) for rank in ranks_of(net)}, {int})
        self.assertEqual(ties, kept)

    def test_by_hand(self):
        net = Net(4, 4, [(0, 1), (1, 2), (2, 0), (3, 3)])
        self.assertEqual([net.pieces(s) for s in range(8)], [4, 3, 3, 2, 3, 2, 2, 2])
        self.assertEqual(ranks_of(net), [0, 1, 1, 2, 1, 2, 2, 2] * 2)
        self.assertEqual(net.pieces(8), 4)

    def test_no_points(self):
        net = Net(0, 0, [])
        self.assertEqual((net.many, net.everything(), net.pieces(0), net.rank(0)), (0, 0, 0, 0))

    def test_no_ties(self):
        for points in range(10):
            self.assertEqual(Net(0, points, []).pieces(0), points)
            self.assertNet(points, [])

    def test_a_tie_of_a_point_to_itself(self):
        for points in range(1, 10):
            for point in range(points):
                self.assertNet(points, [(point, point)])
                self.assertNet(points, [(point, point), (0, points - 1), (point, point)])
        self.assertEqual(ranks_of(Net(2, 1, [(0, 0), (0, 0)])), [0, 0, 0, 0])

    def test_the_same_tie_twice_and_turned(self):
        for ties in [[(0, 1), (0, 1)], [(0, 1), (1, 0)], [(1, 0), (0, 1), (1, 0)]]:
            self.assertNet(2, ties)
            self.assertNet(9, ties)
            self.assertEqual(ranks_of(Net(len(ties), 2, ties))[1:], [1] * (2 ** len(ties) - 1))

    def test_every_net_of_few_points_and_ties(self):
        for points in range(1, 4):
            pairs = list(itertools.product(range(points), repeat=2))
            for n in range(4):
                for ties in itertools.product(pairs, repeat=n):
                    self.assertNet(points, list(ties))

    def test_nets_of_up_to_nine_points(self):
        numbers = helper.strewn(15)
        for points in range(2, 10):
            for n in range(9):
                for turn in range(2):
                    self.assertNet(points, [(next(numbers) % points, next(numbers) % points) for k in range(n)])

    def test_a_way_and_a_round(self):
        way = [(k, k + 1) for k in range(8)]
        self.assertNet(9, way)
        self.assertEqual(Net(8, 9, way).pieces(255), 1)
        self.assertEqual(Net(8, 9, way).rank(255), 8)
        for order in [way[::-1], way[::2] + way[1::2], [(b, a) for a, b in way[4:] + way[:4]]]:
            self.assertNet(9, order)
        round_ = [(k, (k + 1) % 8) for k in range(8)]
        self.assertNet(8, round_)
        self.assertEqual(ranks_of(Net(8, 8, round_)), [min(len(members(s)), 7) for s in range(256)])

    def test_turned_ties_change_nothing(self):
        numbers = helper.strewn(16)
        for points in range(1, 10):
            ties = [(next(numbers) % points, next(numbers) % points) for k in range(6)]
            for turn in range(64):
                other = [tie[::-1] if k in members(turn) else tie for k, tie in enumerate(ties)]
                self.assertEqual(ranks_of(Net(6, points, other)), ranks_of(Net(6, points, ties)))


class KeptApart(unittest.TestCase):
    def test_the_list_of_ties_changed_behind_the_call_changes_nothing(self):
        ties = [(0, 1), (1, 2), (0, 2)]
        net = Net(3, 3, ties)
        told = [0, 1, 1, 2, 1, 2, 2, 2]
        changes = [lambda: ties.__setitem__(0, (2, 2)), lambda: ties.append((0, 0)), lambda: ties.pop(0), ties.clear]
        for change in changes:
            change()
            self.assertEqual(ranks_of(net), told)
            self.assertEqual([net.pieces(s) for s in range(8)], [3 - rank for rank in told])

    def test_another_net_made_between_changes_nothing(self):
        one, other = Net(2, 3, [(0, 1), (1, 2)]), Net(2, 2, [(0, 0), (0, 1)])
        for asked in range(2):
            self.assertEqual(ranks_of(one), [0, 1, 1, 2])
            self.assertEqual(ranks_of(other), [0, 0, 1, 1])


if __name__ == "__main__":
    unittest.main()
