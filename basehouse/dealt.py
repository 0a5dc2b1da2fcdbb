"""Things dealt to several houses, as many as can be, with the bound that shows that no more can be."""

from basehouse.sets import less, parts, size
from basehouse.tellings import frees, ranks


# Of all dealings of one set of things a single one is kept: which of them it is opens nothing to the houses behind.
def dealt_further(dealings, free):
    found = {}
    for done in dealings:
        for s in free:
            if done & s == 0:
                found[done | s] = dealings[done] + [s]
    return found


def dealt(houses):
    everything = houses[0].everything()
    dealings = {0: []}
    for house in houses:
        dealings = dealt_further(dealings, frees(house))
    told = [ranks(house) for house in houses]
    # No dealing is greater than any set's sum, so the least sum is the bound.
    bound = min(parts(everything), key=lambda s: size(less(everything, s)) + sum([some[s] for some in told]))
    return (dealings[max(list(dealings), key=size)], bound)
