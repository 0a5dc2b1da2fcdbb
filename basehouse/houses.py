"""Houses: each sort tells the rank of a set by its own means."""

from basehouse.sets import all_of, size


class House:
    def __init__(self, n):
        self.many = n

    def rank(self, s):
        return 0

    def everything(self):
        return all_of(self.many)


class Even(House):
    def __init__(self, n, k):
        House.__init__(self, n)
        self.most = k

    def rank(self, s):
        return min(size(s), self.most)


class Listed(House):
    def __init__(self, n, some):
        House.__init__(self, n)
        # Kept apart from the list that was handed in, which may change later.
        self.listed = tuple(some)

    def rank(self, s):
        return max([size(s & one) for one in self.listed])
