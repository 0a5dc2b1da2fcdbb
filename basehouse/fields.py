"""Tables over 2, over 3 and over all for a house, or the barred house that is left of one without such a table.

A table is made column by column. Where there is one over 2 or over 3, there is but one, up to multiples of its rows
and columns; so a column that fits those before it never bars a later one, and none is taken back.
"""

from basehouse.barred import OTHER_SEVEN, SEVEN, THREE_OF_FIVE, TWO_OF_FIVE, TWO_OF_FOUR, kind_of
from basehouse.breaks import exchanged
from basehouse.houses import House
from basehouse.pivots import rank_of
from basehouse.sets import choices, less, set_of, things
from basehouse.tellings import bases, ranks, whole_rank
from basehouse.turned import Minor


# The search asks for the same ranks over and over, and a rank may be dear in the house itself.
class Known(House):
    def __init__(self, house):
        House.__init__(self, house.many)
        self.told = tuple(ranks(house))

    def rank(self, s):
        return self.told[s]


def columns_with(filled, prime):
    found = [[]]
    for is_filled in filled:
        numbers = list(range(1, prime)) if is_filled else [0]
        longer = []
        for column in found:
            longer.extend([column + [number] for number in numbers])
        found = longer
    return found


# A house is known by its bases, so only sets that may be one are looked at.
def fits(house, prime, columns, thing, column):
    whole = whole_rank(house)
    for some in choices(set_of(list(columns)), whole - 1):
        table = [columns[before] for before in things(some)] + [column]
        if (rank_of(table, prime) == whole) != (house.rank(some | (1 << thing)) == whole):
            return False
    return True


def column_for(house, prime, columns, base, thing):
    whole = whole_rank(house)
    filled = [house.rank(exchanged(base, old, thing)) == whole for old in things(base)]
    for column in columns_with(filled, prime):
        if fits(house, prime, columns, thing, column):
            return column
    return None


def single(many, place):
    return [1 if row == place else 0 for row in range(many)]


def table_for(house, prime):
    base = bases(house)[0]
    whole = whole_rank(house)
    columns = {}
    for place, thing in enumerate(things(base)):
        columns[thing] = single(whole, place)
    for thing in things(less(house.everything(), base)):
        column = column_for(house, prime, columns, base, thing)
        if column is None:
            return None
        columns[thing] = column
    return [[columns[thing][row] for thing in range(house.many)] for row in range(whole)]


# Whatever can be left of a house is left too by drawing together a free set alone and leaving the whole rank to the
# things that are not taken out; so as many things are drawn together as the ranks differ by.
def left_barred(house, kind, many, rank):
    for kept in choices(house.everything(), many):
        rest = less(house.everything(), kept)
        for drawn in choices(rest, whole_rank(house) - rank):
            out = less(rest, drawn)
            if kind_of(Minor(house, out, drawn)) == kind:
                return ("barred", out, drawn, kind)
    return None


# Each kind comes with the number of its things and its whole rank.
def told_over(house, prime, kinds):
    known = Known(house)
    rows = table_for(known, prime)
    if rows is not None:
        return ("table", rows)
    for kind in kinds:
        found = left_barred(known, kind[0], kind[1], kind[2])
        if found is not None:
            return found
    return None


def over_two(house):
    return told_over(house, 2, [(TWO_OF_FOUR, 4, 2)])


def over_three(house):
    kinds = [(TWO_OF_FIVE, 5, 2), (THREE_OF_FIVE, 5, 3), (SEVEN, 7, 3), (OTHER_SEVEN, 7, 4)]
    return told_over(house, 3, kinds)


# A house has a table over all just where it has one over 2 and one over 3; the latter is such a table then, where -1
# stands for 2.
def over_all(house):
    two = over_two(house)
    if two[0] == "barred":
        return two
    three = over_three(house)
    if three[0] == "barred":
        return three
    return ("table", [[-1 if number == 2 else number for number in row] for row in three[1]])
