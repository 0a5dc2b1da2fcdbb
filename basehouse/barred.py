"""The five barred houses, known by their sets whatever the things are called."""

from basehouse.sets import choices, size, within
from basehouse.tellings import whole_rank
from basehouse.turned import Other

TWO_OF_FOUR = "two of four"
TWO_OF_FIVE = "two of five"
THREE_OF_FIVE = "three of five"
SEVEN = "seven"
OTHER_SEVEN = "other seven"


def is_even(house, n, k):
    if house.many != n or whole_rank(house) != k:
        return False
    return all([house.rank(s) == k for s in choices(house.everything(), k)])


def holders(sets, s):
    return [t for t in sets if within(s, t)]


def is_seven(house):
    if house.many != 7 or whole_rank(house) != 3:
        return False
    everything = house.everything()
    lines = [s for s in choices(everything, 3) if house.rank(s) < size(s)]
    # There are 21 pairs and three of them in a line, so lines that hold each pair once are seven.
    return all([len(holders(lines, pair)) == 1 for pair in choices(everything, 2)])


def kind_of(house):
    if is_even(house, 4, 2):
        return TWO_OF_FOUR
    if is_even(house, 5, 2):
        return TWO_OF_FIVE
    if is_even(house, 5, 3):
        return THREE_OF_FIVE
    if is_seven(house):
        return SEVEN
    if is_seven(Other(house)):
        return OTHER_SEVEN
    return None
