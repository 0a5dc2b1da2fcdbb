"""What several tests need: sets by worths, plain searches for breaks, houses, and numbers that only look strewn."""

import itertools

from basehouse.breaks import broken_bases
from basehouse.houses import Even, House, Listed
from basehouse.nets import Net
from basehouse.tables import Tabled
from basehouse.turned import Minor, Other, Side

PRIMES = [p for p in range(2, 100) if all(p % d for d in range(2, p))]
# How many houses of 0, 1, 2, .. things there are, the things told apart.
HOUSES = [1, 2, 5, 16, 68, 406]


def members(s):
    """The things of a set, found by worths rather than by bits."""
    return [k for k in range(s.bit_length()) if (s // 2**k) % 2 == 1]


def number(some):
    return sum(2**k for k in set(some))


def subsets(n, k):
    """All sets of k of n things, rising."""
    return sorted(number(some) for some in itertools.combinations(range(n), k))


def strewn(seed):
    """Numbers from 0 to 2 ** 32 - 1, the same at each run."""
    state = seed * 2654435761 + 12345
    while True:
        state = (state * 6364136223846793005 + 1442695040888963407) % 2**64
        yield state // 2**32


def lists_of_sets(n):
    """Every rising list of sets of n things."""
    for chosen in range(2 ** (2**n)):
        yield [s for s in range(2**n) if (chosen // 2**s) % 2 == 1]


def strewn_lists(n, many, seed):
    """Some lists of sets of n things, longer and shorter ones."""
    numbers = strewn(seed)
    for turn in range(many):
        yield [s for s in range(2**n) if next(numbers) % (2 + turn % 5) == 0]


def least(breaks):
    return min(breaks, default=None)


def plain_bases(n, bases):
    """Through all triples, as the point tells them."""
    if not bases:
        return (0, 0, -1)
    have = {frozenset(members(s)) for s in bases}
    breaks = []
    for one, other, thing in itertools.product(bases, bases, range(n)):
        a, b = frozenset(members(one)), frozenset(members(other))
        if thing in a - b and not any(a - {thing} | {y} in have for y in b - a):
            breaks.append((one, other, thing))
    return least(breaks)


def plain_rings(n, rings):
    have = [frozenset(members(s)) for s in rings]
    if frozenset() in have:
        return (0, 0, -1)
    pairs = list(itertools.product(rings, rings))
    breaks = [(one, other, -1) for one, other in pairs if set(members(one)) < set(members(other))]
    if breaks:
        return least(breaks)
    for (one, other), thing in itertools.product(pairs, range(n)):
        a, b = frozenset(members(one)), frozenset(members(other))
        if one < other and thing in a & b and not any(ring <= (a | b) - {thing} for ring in have):
            breaks.append((one, other, thing))
    return least(breaks)


def plain_ranks(n, ranks):
    if ranks[0] != 0:
        return (0, 0, -1)
    pairs = list(itertools.product(range(2**n), range(2**n)))
    breaks = []
    for one, other in pairs:
        a, b = set(members(one)), set(members(other))
        if a < b and len(b) == len(a) + 1 and ranks[other] - ranks[one] not in [0, 1]:
            breaks.append((one, other, -1))
    if breaks:
        return least(breaks)
    for one, other in pairs:
        a, b = set(members(one)), set(members(other))
        if one < other and len(a) == len(b) == len(a & b) + 1:
            low = ranks[number(a & b)]
            if ranks[one] == ranks[other] == low < ranks[number(a | b)]:
                breaks.append((one, other, -1))
    return least(breaks)


def plain_flats(n, flats):
    everything = 2**n - 1
    if everything not in flats:
        return (everything, everything, -1)
    have = {s: frozenset(members(s)) for s in flats}
    breaks = []
    for one, other in itertools.product(flats, flats):
        if one < other and have[one] & have[other] not in have.values():
            breaks.append((one, other, -1))
    if breaks:
        return least(breaks)

    def over(one, thing):
        return frozenset.intersection(*[flat for flat in have.values() if flat >= have[one] | {thing}])

    for one in flats:
        outside = set(range(n)) - have[one]
        covers = {x: over(one, x) for x in outside}
        for cover, thing in itertools.product(covers.values(), range(n)):
            if thing in cover - have[one] and covers[thing] != cover:
                breaks.append((one, number(cover), thing))
    return least(breaks)


def rank_by(bases, s):
    return max(len(set(members(s)) & set(members(base))) for base in bases)


def tellings_by(n, bases):
    """Ranks, rings and flats of the house with these bases, set by set."""
    ranks = [rank_by(bases, s) for s in range(2**n)]
    free = [ranks[s] == len(members(s)) for s in range(2**n)]
    rings = [s for s in range(2**n) if not free[s] and all(free[s - 2**k] for k in members(s))]
    flats = [s for s in range(2**n)
             if all(ranks[s + 2**k] == ranks[s] + 1 for k in range(n) if k not in members(s))]
    return ranks, rings, flats


def some_bases():
    """Bases of houses of 0 to 8 things, told by hand: (n, list of bases)."""
    found = [(n, subsets(n, k)) for n in range(9) for k in range(n + 1)]
    found.append((7, SEVEN))
    # A thing of rank 0 and a thing in every base, beside it.
    found.append((8, [s + 128 for s in subsets(6, 2)]))
    found.append((4, [1]))
    found.append((5, [0b00011, 0b00101, 0b10001]))
    # Two and two of the things stand for one another.
    found.append((8, sorted(number([a, 2 + b, 4 + c]) for a, b, c in itertools.product([0, 1], repeat=3))))
    # A square and its slant: trees of a net.
    found.append((5, [s for s in subsets(5, 3) if s not in (0b10011, 0b11100)]))
    return found


def with_one_more(n, sets):
    """The list with each set that it lacks put in, one by one."""
    for s in range(2**n):
        if s not in sets:
            yield sorted(sets + [s])


def with_one_less(sets):
    for s in sets:
        yield [t for t in sets if t != s]


def outside(n, s):
    return [k for k in range(n) if k not in members(s)]


def other_ranks(ranks):
    """The ranks of the other house, by what the bases leave out."""
    left_out = [len(ranks) - 1 - base for base in bases_by(ranks)]
    return [rank_by(left_out, s) for s in range(len(ranks))]


def minor_ranks(ranks, out, drawn):
    kept = [k for k in members(len(ranks) - 1) if k not in members(out) + members(drawn)]
    found = []
    for s in range(2 ** len(kept)):
        put = number([kept[j] for j in members(s)] + members(drawn))
        found.append(ranks[put] - ranks[drawn])
    return found


def side_ranks(one, other):
    """Thing j of the other goes behind the things of the one."""
    return [one[s % len(one)] + other[s // len(one)] for s in range(len(one) * len(other))]


def ranks_of(house):
    return [house.rank(s) for s in range(2**house.many)]


def bases_by(ranks):
    return [s for s in range(len(ranks)) if ranks[s] == len(members(s)) == ranks[-1]]


def bases_of(house):
    return bases_by(ranks_of(house))


def plain_houses():
    """Houses that are made of no others, of each sort and of 0 to 8 things: (label, house)."""
    found = [(f"House({n})", House(n)) for n in range(9)]
    found += [(f"Even({n}, {k})", Even(n, k)) for n in range(9) for k in {0, 1, n // 2, max(n - 1, 0), n} if k <= n]
    found += [(f"Listed({n}, {bases})", Listed(n, bases)) for n, bases in some_bases() if len(bases) < 40]
    numbers = strewn(99)
    for n in range(9):
        for prime, rows, span in [(0, 3, 5), (2, 4, 2), (3, 2, 3), (97, 3, 200)]:
            table = [[next(numbers) % span - span // 2 for k in range(n)] for row in range(rows)]
            found.append((f"Tabled({n}, {prime}, {table})", Tabled(n, prime, table)))
        for points in [1, 3, 5, 9]:
            ties = [(next(numbers) % points, next(numbers) % points) for k in range(n)]
            found.append((f"Net({n}, {points}, {ties})", Net(n, points, ties)))
    seven = [[1, 0, 0, 1, 1, 0, 1], [0, 1, 0, 1, 0, 1, 1], [0, 0, 1, 0, 1, 1, 1]]
    found.append(("seven over 2", Tabled(7, 2, seven)))
    found.append(("seven over 0", Tabled(7, 0, seven)))
    found.append(("no points", Net(0, 0, [])))
    found.append(("four points", Net(6, 4, [(0, 1), (0, 2), (0, 3), (1, 2), (1, 3), (2, 3)])))
    return found


def made_houses():
    """Houses made of houses, one deep and deeper, each sort of 0 to 8 things: (label, house)."""
    found = []
    for n in range(9):
        found.append((f"Other(Even({n}, {n // 3}))", Other(Even(n, n // 3))))
        found.append((f"Minor(Even({n}, {n // 2}), 0, 0)", Minor(Even(n, n // 2), 0, 0)))
        found.append((f"Side of {n} things", Side(Even(n // 2, n // 3), House(n - n // 2))))
    numbers = strewn(98)
    plain = plain_houses()
    for label, house in plain[::5]:
        out = next(numbers) % 2**house.many
        drawn = next(numbers) % 2**house.many & ~out
        found.append((f"Other({label})", Other(house)))
        found.append((f"Minor({label}, {out}, {drawn})", Minor(house, out, drawn)))
        found.append((f"Minor(Other({label}), 0, {drawn})", Minor(Other(house), 0, drawn)))
    for (label, one), (other_label, other) in zip(plain[::3], reversed(plain[::3])):
        if one.many + other.many <= 8:
            found.append((f"Other(Side({label}, {other_label}))", Other(Side(one, other))))
    return found


def all_houses():
    return plain_houses() + made_houses()


def deeper(house, told, numbers):
    """A house one deeper than this, and its ranks by plain means."""
    e = len(told) - 1
    sort = next(numbers) % 4
    if sort == 0:
        return Other(house), other_ranks(told)
    if sort == 1 and house.many > 0:
        out = next(numbers) & next(numbers) & e
        drawn = next(numbers) & next(numbers) & e & ~out
        return Minor(house, out, drawn), minor_ranks(told, out, drawn)
    n = 8 - house.many if house.many > 5 else 2
    other = Even(n, next(numbers) % (n + 1))
    if sort == 2:
        return Side(house, other), side_ranks(told, ranks_of(other))
    return Side(other, house), side_ranks(ranks_of(other), told)


def deep_houses():
    """Houses six deep: (label, house)."""
    found = []
    numbers = strewn(97)
    for label, house in plain_houses()[::4]:
        told = ranks_of(house)
        for deep in range(6):
            house, told = deeper(house, told, numbers)
        found.append((f"six deep, of {label}", house))
    return found


def by_many(houses):
    """The houses of 0, 1, .. 8 things, a list each."""
    return [[(label, house) for label, house in houses if house.many == n] for n in range(9)]


def called(bases, names):
    """The bases with thing k called names[k]."""
    return sorted(number(names[k] for k in members(base)) for base in bases)


LINES = ((0, 1, 2), (0, 3, 4), (0, 5, 6), (1, 3, 5), (1, 4, 6), (2, 3, 6), (2, 4, 5))
SEVEN = [s for s in subsets(7, 3) if tuple(members(s)) not in LINES]


def all_sevens():
    """The bases of every "seven" of the things 0 to 6, whatever these are called: 30 lists."""
    found = {tuple(called(SEVEN, names)) for names in itertools.permutations(range(7))}
    return [list(bases) for bases in sorted(found)]


SEVENS = {tuple(bases) for bases in all_sevens()}


def plain_kind(n, bases):
    """The barred house that has just these bases, or None."""
    for kind, many, rank in [("two of four", 4, 2), ("two of five", 5, 2), ("three of five", 5, 3)]:
        if n == many and bases == subsets(many, rank):
            return kind
    if n == 7 and tuple(bases) in SEVENS:
        return "seven"
    if n == 7 and tuple(sorted(127 - base for base in bases)) in SEVENS:
        return "other seven"
    return None


def two_sets(n):
    """All pairs of sets of n things without a thing in common."""
    for ways in itertools.product(range(3), repeat=n):
        yield number(k for k in range(n) if ways[k] == 1), number(k for k in range(n) if ways[k] == 2)


def small_houses(n):
    """Every house of n things, n at most 5, as a Listed one."""
    found = []
    for rank in range(n + 1):
        sets = subsets(n, rank)
        for chosen in range(1, 2 ** len(sets)):
            bases = [sets[place] for place in members(chosen)]
            if broken_bases(n, bases) is None:
                found.append(Listed(n, bases))
    return found


def paved(n, rank, seed):
    """A house in which only some sets of as many things as the whole rank are no bases, any two of them far apart."""
    numbers = strewn(seed)
    sets = sorted(subsets(n, rank), key=lambda s: next(numbers))
    shut = []
    for s in sets[: 5 + next(numbers) % len(sets)]:
        if all(len(members(s & t)) < rank - 1 for t in shut):
            shut.append(s)
    return Listed(n, [s for s in subsets(n, rank) if s not in shut])
