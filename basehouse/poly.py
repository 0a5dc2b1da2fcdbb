"""The polynomial of a house in two unknowns, its worth, and what is counted by it.

While it is built, it is a dict: the number ahead of the i-th power of x times the j-th power of y, by (i, j).
"""

from basehouse.sets import less, parts, set_of, size
from basehouse.tellings import ranks


def power(number, exponent):
    product = 1
    for step in range(exponent):
        product = product * number
    return product


def times(terms, i, j):
    return dict([((pair[0] + i, pair[1] + j), terms[pair]) for pair in terms])


def plus(one, other):
    found = dict(one)
    for pair in other:
        found[pair] = found.get(pair, 0) + other[pair]
    return found


# What is in neither drawn nor left is taken out, so the ranks of the first house serve for every house on the way.
def terms_of(told, drawn, left):
    if len(left) == 0:
        return {(0, 0): 1}
    thing = 1 << left[0]
    behind = left[1:]
    everything = drawn | set_of(left)
    taken_out = terms_of(told, drawn, behind)
    if told[drawn | thing] == told[drawn]:
        return times(taken_out, 0, 1)
    if told[everything] > told[less(everything, thing)]:
        return times(taken_out, 1, 0)
    return plus(taken_out, terms_of(told, drawn | thing, behind))


def polynomial(house, order=None):
    left = list(range(house.many)) if order is None else list(order)
    terms = terms_of(ranks(house), 0, left)
    return sorted([(pair[0], pair[1], terms[pair]) for pair in terms])


def worth(poly, x, y):
    return sum([term[2] * power(x, term[0]) * power(y, term[1]) for term in poly])


def counts(house):
    poly = polynomial(house)
    return (worth(poly, 1, 1), worth(poly, 2, 1), worth(poly, 1, 2))


# A set of ties whose points are coloured alike leaves one colour to choose for each piece; added and taken away by
# turns, such ways cancel out but for those in which no tie's points are alike.
def colourings(net, k):
    found = 0
    for s in parts(net.everything()):
        ways = power(k, net.pieces(s))
        found = found + (ways if size(s) % 2 == 0 else -ways)
    return found
