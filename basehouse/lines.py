"""Lines told to a desk, read as far as they can be without knowing which houses there are.

Each reader takes the words behind the line's verb and tells two lists: the names of the houses that are asked, and
whatever else is given.
"""

from basehouse.errors import NoLine, NoSet
from basehouse.names import read
from basehouse.sets import all_of, within

SMALL_LETTERS = "abcdefghijklmnopqrstuvwxyz"
FIGURES = "0123456789"
MOST = 8
MOST_POINTS = 9
NOUGHT_AND_PRIMES = (0, 2, 3, 5, 7, 11, 13, 17, 19, 23, 29, 31, 37, 41, 43, 47, 53, 59, 61, 67, 71, 73, 79, 83, 89, 97)


class Line:
    def __init__(self, target, verb, asked, given):
        # The name before the sign =, or None where the line makes no house.
        self.target = target
        self.verb = verb
        self.asked = asked
        self.given = given


def need(right, words):
    if not right:
        raise NoLine(f"not a line, at {words!r}")


def made_of(signs, word):
    return word != "" and all([sign in signs for sign in word])


def name_of(word):
    need(made_of(SMALL_LETTERS, word) and len(word) <= 8, word)
    return word


def number_of(word):
    need(made_of(FIGURES, word), word)
    need(word == "0" or not word.startswith("0"), word)
    return int(word)


def number_up_to(most, word):
    number = number_of(word)
    need(number <= most, word)
    return number


def signed_of(word):
    if not word.startswith("-"):
        return number_of(word)
    number = number_of(word[1:])
    need(number != 0, word)
    return -number


def set_within(n, word):
    try:
        s = read(word)
    except NoSet:
        raise NoLine(f"not a set: {word!r}") from None
    need(within(s, all_of(n)), word)
    return s


def tie_of(points, word):
    need(len(word) == 2, word)
    return (number_up_to(points - 1, word[0]), number_up_to(points - 1, word[1]))


def rows_of(n, numbers):
    if n == 0:
        need(len(numbers) == 0, numbers)
        return []
    need(len(numbers) % n == 0 and len(numbers) <= MOST * n, numbers)
    return [numbers[start:start + n] for start in range(0, len(numbers), n)]


def read_even(words):
    need(len(words) == 2, words)
    n = number_up_to(MOST, words[0])
    return ([], [n, number_up_to(n, words[1])])


def read_sets(words):
    need(len(words) >= 1, words)
    n = number_up_to(MOST, words[0])
    return ([], [n, sorted(set([set_within(n, word) for word in words[1:]]))])


def read_net(words):
    need(1 <= len(words) <= 1 + MOST, words)
    points = number_up_to(MOST_POINTS, words[0])
    return ([], [points, [tie_of(points, word) for word in words[1:]]])


def read_table(words):
    need(len(words) >= 2, words)
    prime = number_of(words[0])
    need(prime in NOUGHT_AND_PRIMES, words)
    n = number_up_to(MOST, words[1])
    return ([], [prime, n, rows_of(n, [signed_of(word) for word in words[2:]])])


def read_house(words):
    need(len(words) == 1, words)
    return ([name_of(words[0])], [])


def read_two_houses(words):
    need(len(words) == 2, words)
    return ([name_of(word) for word in words], [])


# Which things the house has is not known here, so any set may come.
def read_house_and_set(words):
    need(len(words) == 2, words)
    return ([name_of(words[0])], [set_within(MOST, words[1])])


def read_house_and_numbers(words):
    need(len(words) >= 1, words)
    return ([name_of(words[0])], [signed_of(word) for word in words[1:]])


def read_weights(words):
    need(len(words) <= 1 + MOST, words)
    return read_house_and_numbers(words)


def read_worth(words):
    need(len(words) == 3, words)
    return read_house_and_numbers(words)


MAKING = {
    "even": read_even,
    "bases": read_sets,
    "rings": read_sets,
    "flats": read_sets,
    "net": read_net,
    "table": read_table,
    "other": read_house,
    "out": read_house_and_set,
    "drawn": read_house_and_set,
    "side": read_two_houses,
}
ASKING = {
    "bases": read_house,
    "rings": read_house,
    "flats": read_house,
    "frees": read_house,
    "rank": read_house_and_set,
    "closed": read_house_and_set,
    "same": read_two_houses,
    "two": read_house,
    "three": read_house,
    "all": read_house,
    "common": read_two_houses,
    "heaviest": read_weights,
    "counts": read_house,
    "worth": read_worth,
}


def making_line(words):
    target = name_of(words[0])
    verb = words[2]
    need(verb in MAKING, words)
    found = MAKING[verb](words[3:])
    return Line(target, verb, found[0], found[1])


def asking_line(words):
    verb = words[0]
    need(verb in ASKING, words)
    found = ASKING[verb](words[1:])
    return Line(None, verb, found[0], found[1])


def line_of(text):
    words = text.split(" ")
    if len(words) > 2 and words[1] == "=":
        return making_line(words)
    return asking_line(words)
