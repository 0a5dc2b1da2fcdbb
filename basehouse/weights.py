"""Weights of things, and the base that weighs most."""

from basehouse.sets import things


def weight_of(s, weights):
    return sum([weights[thing] for thing in things(s)])


def heaviest(house, weights):
    order = sorted(range(house.many), key=lambda thing: (-weights[thing], thing))
    taken = 0
    for thing in order:
        more = taken | (1 << thing)
        if house.rank(more) > house.rank(taken):
            taken = more
    return taken
