"""Sets of things as whole numbers: thing k is in a set where its bit k is set."""


def holds(s, thing):
    return (s >> thing) % 2 == 1


def things(s):
    return [thing for thing in range(s.bit_length()) if holds(s, thing)]


def size(s):
    return len(things(s))


def set_of(some):
    s = 0
    for thing in some:
        s = s | (1 << thing)
    return s


def lowest(s):
    if s == 0:
        return None
    return things(s)[0]


def within(s, t):
    return (s & t) == s


def parts(s):
    found = [0]
    for thing in things(s):
        # Each thing outweighs all lesser ones together, so the sets with it go behind those without.
        found = found + [part | (1 << thing) for part in found]
    return found


def choices(s, k):
    return [part for part in parts(s) if size(part) == k]


def pressed(s, kept):
    return set_of([number for number, thing in enumerate(things(kept)) if holds(s, thing)])


def spread(s, kept):
    return set_of([thing for number, thing in enumerate(things(kept)) if holds(s, number)])


def all_of(n):
    return (1 << n) - 1


def less(s, t):
    return s ^ (s & t)
