"""What a desk makes and answers, once it is known which houses a line asks: each by these houses and what is given."""

from basehouse.common import common
from basehouse.errors import NoFit
from basehouse.fields import over_all, over_three, over_two
from basehouse.houses import Even
from basehouse.lines import MOST
from basehouse.names import shown, shown_all
from basehouse.nets import Net
from basehouse.poly import counts, polynomial, worth
from basehouse.sets import size, within
from basehouse.tables import Tabled
from basehouse.tellings import bases, closed, flats, frees, of_bases, of_flats, of_rings, rings
from basehouse.turned import Minor, Other, Side
from basehouse.weights import heaviest


def fit(right, words):
    if not right:
        raise NoFit(words)


def fit_set(house, s):
    fit(within(s, house.everything()), "a set with a thing that the house does not have")


def made_even(houses, given):
    return Even(given[0], given[1])


def made_of_bases(houses, given):
    return of_bases(given[0], given[1])


def made_of_rings(houses, given):
    return of_rings(given[0], given[1])


def made_of_flats(houses, given):
    return of_flats(given[0], given[1])


def made_net(houses, given):
    return Net(len(given[1]), given[0], given[1])


def made_table(houses, given):
    return Tabled(given[1], given[0], given[2])


def made_other(houses, given):
    return Other(houses[0])


def made_out(houses, given):
    fit_set(houses[0], given[0])
    return Minor(houses[0], given[0], 0)


def made_drawn(houses, given):
    fit_set(houses[0], given[0])
    return Minor(houses[0], 0, given[0])


def made_side(houses, given):
    fit(houses[0].many + houses[1].many <= MOST, "too many things side by side")
    return Side(houses[0], houses[1])


def sets_text(sets):
    return "none" if len(sets) == 0 else shown_all(sets)


def yes_or_no(right):
    return "yes" if right else "no"


def told_bases(houses, given):
    return sets_text(bases(houses[0]))


def told_rings(houses, given):
    return sets_text(rings(houses[0]))


def told_flats(houses, given):
    return sets_text(flats(houses[0]))


def told_frees(houses, given):
    return sets_text(frees(houses[0]))


def told_rank(houses, given):
    fit_set(houses[0], given[0])
    return str(houses[0].rank(given[0]))


def told_closed(houses, given):
    fit_set(houses[0], given[0])
    return shown(closed(houses[0], given[0]))


def told_same(houses, given):
    as_many = houses[0].many == houses[1].many
    return yes_or_no(as_many and bases(houses[0]) == bases(houses[1]))


def told_two(houses, given):
    return yes_or_no(over_two(houses[0])[0] == "table")


def told_three(houses, given):
    return yes_or_no(over_three(houses[0])[0] == "table")


def told_all(houses, given):
    return yes_or_no(over_all(houses[0])[0] == "table")


def told_common(houses, given):
    fit(houses[0].many == houses[1].many, "two houses with unlike many things")
    return str(size(common(houses[0], houses[1])[0]))


def told_heaviest(houses, given):
    fit(len(given) == houses[0].many, "not as many weights as things")
    return shown(heaviest(houses[0], given))


def told_counts(houses, given):
    return " ".join([str(number) for number in counts(houses[0])])


def told_worth(houses, given):
    return str(worth(polynomial(houses[0]), given[0], given[1]))


MADE = {
    "even": made_even,
    "bases": made_of_bases,
    "rings": made_of_rings,
    "flats": made_of_flats,
    "net": made_net,
    "table": made_table,
    "other": made_other,
    "out": made_out,
    "drawn": made_drawn,
    "side": made_side,
}
TOLD = {
    "bases": told_bases,
    "rings": told_rings,
    "flats": told_flats,
    "frees": told_frees,
    "rank": told_rank,
    "closed": told_closed,
    "same": told_same,
    "two": told_two,
    "three": told_three,
    "all": told_all,
    "common": told_common,
    "heaviest": told_heaviest,
    "counts": told_counts,
    "worth": told_worth,
}


def made(verb, houses, given):
    return MADE[verb](houses, given)


def answered(verb, houses, given):
    return TOLD[verb](houses, given)
