"""The refusals: one class for each."""


class HouseError(ValueError):
    pass


class NoSet(HouseError):
    pass


class NoHouse(HouseError):
    def __init__(self, one, other, thing):
        HouseError.__init__(self, one, other, thing)
        self.one = one
        self.other = other
        self.thing = thing


class NoLine(HouseError):
    pass


class NoName(HouseError):
    pass


class NoFit(HouseError):
    pass
