"""The four tellings of a house, each looked through for its first break.

The lists that are handed in rise, so the first break that a walk along them meets is the one that is told.
"""

from basehouse.sets import all_of, less, parts, things, within


def marked(sets):
    return dict([(s, True) for s in sets])


def exchanged(s, thing, y):
    return less(s, 1 << thing) | (1 << y)


def has_exchange(listed, one, other, thing):
    for y in things(less(other, one)):
        if exchanged(one, thing, y) in listed:
            return True
    return False


def broken_bases(n, bases):
    if len(bases) == 0:
        return (0, 0, -1)
    listed = marked(bases)
    for one in bases:
        for other in bases:
            for thing in things(less(one, other)):
                if not has_exchange(listed, one, other, thing):
                    return (one, other, thing)
    return None


def holds_ring(rings, s):
    for ring in rings:
        if within(ring, s):
            return True
    return False


def ring_in_ring(rings):
    for one in rings:
        for other in rings:
            if one != other and within(one, other):
                return (one, other, -1)
    return None


def rings_without_third(rings):
    for one in rings:
        for other in rings:
            if one < other:
                for thing in things(one & other):
                    if not holds_ring(rings, less(one | other, 1 << thing)):
                        return (one, other, thing)
    return None


def broken_rings(n, rings):
    if 0 in rings:
        return (0, 0, -1)
    found = ring_in_ring(rings)
    if found is None:
        found = rings_without_third(rings)
    return found


def wrong_step(n, ranks):
    for one in parts(all_of(n)):
        for thing in things(less(all_of(n), one)):
            other = one | (1 << thing)
            if ranks[other] - ranks[one] not in (0, 1):
                return (one, other, -1)
    return None


# Two sets that are each one thing more than what they have in common are one exchange apart.
def exchanges(n, s):
    found = []
    for thing in things(s):
        for y in things(less(all_of(n), s)):
            found.append(exchanged(s, thing, y))
    return sorted(found)


def late_step(n, ranks):
    for one in parts(all_of(n)):
        for other in exchanges(n, one):
            low = ranks[one & other]
            adds_nothing = ranks[one] == low and ranks[other] == low
            if one < other and adds_nothing and ranks[one | other] > low:
                return (one, other, -1)
    return None


def broken_ranks(n, ranks):
    if ranks[0] != 0:
        return (0, 0, -1)
    found = wrong_step(n, ranks)
    if found is None:
        found = late_step(n, ranks)
    return found


def common_not_listed(flats):
    listed = marked(flats)
    for one in flats:
        for other in flats:
            if one < other and (one & other) not in listed:
                return (one, other, -1)
    return None


def least_flat(n, flats, s):
    least = all_of(n)
    for flat in flats:
        if within(s, flat):
            least = least & flat
    return least


def flats_that_meet(n, flats):
    for one in flats:
        over = {}
        for thing in things(less(all_of(n), one)):
            over[thing] = least_flat(n, flats, one | (1 << thing))
        for other in sorted(over.values()):
            for thing in things(less(other, one)):
                if over[thing] != other:
                    return (one, other, thing)
    return None


def broken_flats(n, flats):
    everything = all_of(n)
    if everything not in flats:
        return (everything, everything, -1)
    found = common_not_listed(flats)
    if found is None:
        found = flats_that_meet(n, flats)
    return found
