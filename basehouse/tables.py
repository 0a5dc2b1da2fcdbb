"""Houses whose things are the columns of a table."""

from basehouse.houses import House
from basehouse.pivots import rank_of
from basehouse.sets import things


class Tabled(House):
    def __init__(self, n, prime, rows):
        House.__init__(self, n)
        self.prime = prime
        # Kept apart from the rows that were handed in, which may change later.
        self.rows = tuple([tuple(row) for row in rows])

    def rank(self, s):
        some = things(s)
        return rank_of([[row[thing] for thing in some] for row in self.rows], self.prime)
