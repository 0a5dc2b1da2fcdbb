"""What is told of any house, and the Listed houses that such tellings lead back to."""

from basehouse.breaks import broken_bases, broken_flats, broken_ranks, broken_rings, holds_ring, least_flat
from basehouse.errors import NoHouse
from basehouse.houses import Listed
from basehouse.sets import all_of, holds, less, parts, size, things


def whole_rank(house):
    return house.rank(house.everything())


def ranks(house):
    return [house.rank(s) for s in parts(house.everything())]


def frees(house):
    return [s for s in parts(house.everything()) if house.rank(s) == size(s)]


def bases(house):
    whole = whole_rank(house)
    return [s for s in frees(house) if size(s) == whole]


def is_ring(free, s):
    if free[s]:
        return False
    return all([free[less(s, 1 << thing)] for thing in things(s)])


def rings(house):
    free = [rank == size(s) for s, rank in enumerate(ranks(house))]
    return [s for s in parts(house.everything()) if is_ring(free, s)]


def is_flat(told, outside, s):
    return all([told[s | (1 << thing)] == told[s] + 1 for thing in things(outside)])


def flats(house):
    everything = house.everything()
    told = ranks(house)
    return [s for s in parts(everything) if is_flat(told, less(everything, s), s)]


def closed(house, s):
    rank = house.rank(s)
    found = s
    for thing in things(less(house.everything(), s)):
        if house.rank(s | (1 << thing)) == rank:
            found = found | (1 << thing)
    return found


def refuse(found):
    if found is not None:
        raise NoHouse(found[0], found[1], found[2])


# The greatest free sets of a house are its bases.
def house_of_frees(n, free):
    most = max([size(s) for s in free])
    return Listed(n, [s for s in free if size(s) == most])


def of_bases(n, bases):
    refuse(broken_bases(n, bases))
    return Listed(n, bases)


def of_rings(n, rings):
    refuse(broken_rings(n, rings))
    return house_of_frees(n, [s for s in parts(all_of(n)) if not holds_ring(rings, s)])


# A set is free where none of its things lies in the least flat over the others.
def is_free(over, s):
    return not any([holds(over[less(s, 1 << thing)], thing) for thing in things(s)])


def of_flats(n, flats):
    refuse(broken_flats(n, flats))
    sets = parts(all_of(n))
    over = [least_flat(n, flats, s) for s in sets]
    return house_of_frees(n, [s for s in sets if is_free(over, s)])


def of_ranks(n, ranks):
    refuse(broken_ranks(n, ranks))
    return house_of_frees(n, [s for s in parts(all_of(n)) if ranks[s] == size(s)])
