"""A greatest set that is free in two houses, with the bound that shows that none is greater."""

from basehouse.sets import less, parts, size
from basehouse.tellings import ranks


def common(one, other):
    everything = one.everything()
    sets = parts(everything)
    first = ranks(one)
    second = ranks(other)
    shared = [s for s in sets if first[s] == size(s) and second[s] == size(s)]
    # A common free set has no more things than any set's two ranks come to, so the least sum is the bound.
    bound = min(sets, key=lambda s: first[s] + second[less(everything, s)])
    return (max(shared, key=size), bound)
