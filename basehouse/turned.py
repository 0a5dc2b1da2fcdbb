"""Houses made of houses: the other house, things taken out or drawn together, and two houses side by side.

What is always the same of a house within is asked once, when the house is made, so that a house many deep asks each
house within it no more than once for a rank.
"""

from basehouse.houses import House
from basehouse.sets import less, size, spread


class Other(House):
    def __init__(self, house):
        House.__init__(self, house.many)
        self.house = house
        self.full = house.everything()
        self.full_rank = house.rank(self.full)

    def rank(self, s):
        outside = less(self.full, s)
        return size(s) + self.house.rank(outside) - self.full_rank


class Minor(House):
    def __init__(self, house, out, drawn):
        kept = less(house.everything(), out | drawn)
        House.__init__(self, size(kept))
        self.house = house
        self.kept = kept
        self.drawn = drawn
        self.drawn_rank = house.rank(drawn)

    def rank(self, s):
        return self.house.rank(spread(s, self.kept) | self.drawn) - self.drawn_rank


class Side(House):
    def __init__(self, one, other):
        House.__init__(self, one.many + other.many)
        self.first = one
        self.second = other
        self.first_many = one.many
        self.first_full = one.everything()

    def rank(self, s):
        return self.first.rank(s & self.first_full) + self.second.rank(s >> self.first_many)
