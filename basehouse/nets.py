"""Houses whose things tie points."""

from basehouse.houses import House
from basehouse.sets import things


# The points of one piece bear one mark, and no others bear it.
def tied(marks, tie):
    old = marks[tie[0]]
    new = marks[tie[1]]
    return [new if mark == old else mark for mark in marks]


class Net(House):
    def __init__(self, n, points, ties):
        House.__init__(self, n)
        self.points = points
        # Kept apart from the list that was handed in, which may change later.
        self.ties = tuple([(tie[0], tie[1]) for tie in ties])

    def pieces(self, s):
        marks = list(range(self.points))
        for thing in things(s):
            marks = tied(marks, self.ties[thing])
        return len(set(marks))

    def rank(self, s):
        return self.points - self.pieces(s)
