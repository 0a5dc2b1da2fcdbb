"""A desk: it keeps houses by names, is told lines, and answers each."""

from basehouse.answers import answered, made
from basehouse.errors import NoName
from basehouse.houses import Listed
from basehouse.lines import line_of
from basehouse.tellings import bases


class Desk:
    def __init__(self):
        self.houses = {}

    def house_called(self, name):
        if name not in self.houses:
            raise NoName(f"no house is called {name}")
        return self.houses[name]

    def say(self, line):
        told = line_of(line)
        asked = [self.house_called(name) for name in told.asked]
        if told.target is None:
            return answered(told.verb, asked, told.given)
        house = made(told.verb, asked, told.given)
        # By its bases alone a house gets no deeper, through however many lines it is made.
        self.houses[told.target] = Listed(house.many, bases(house))
        return "ok"
