import itertools
import unittest

import helper
from basehouse.common import common
from basehouse.desk import Desk
from basehouse.errors import HouseError, NoFit, NoHouse, NoLine, NoName, NoSet
from basehouse.fields import over_all, over_three, over_two
from basehouse.houses import Even, House, Listed
from basehouse.names import shown, shown_all
from basehouse.nets import Net
from basehouse.poly import polynomial
from basehouse.tables import Tabled
from basehouse.turned import Minor, Other, Side
from basehouse.weights import heaviest
from helper import bases_of, members, ranks_of, subsets

LONG = 10**59 + 7
WORDS = ["even", "bases", "rings", "flats", "net", "table", "other", "out", "drawn", "side", "frees", "rank", "closed",
         "same", "two", "three", "all", "common", "heaviest", "counts", "worth", "none", "ok", "yes", "no"]


def telling(house):
    """A line's end that makes this house by its bases."""
    return " ".join(["bases", str(house.many)] + [shown(base) for base in bases_of(house)])


def numbers_of(rows):
    return "".join(f" {x}" for row in rows for x in row)


class DeskTest(unittest.TestCase):
    def told(self, lines):
        """A desk that was told these lines, all of them answered by ok."""
        desk = Desk()
        for line in lines:
            self.assertEqual(desk.say(line), "ok", line)
        return desk

    def assertSays(self, desk, line, answer):
        found = desk.say(line)
        self.assertIs(type(found), str)
        self.assertEqual(found, answer, line)

    def assertTalk(self, desk, talk):
        """Lines told one after the other, each with its answer or its refusal."""
        for line, answer in talk:
            if isinstance(answer, str):
                self.assertSays(desk, line, answer)
            else:
                self.assertRefused(desk, line, answer)

    def assertHouse(self, desk, name, house):
        """The desk has this house by this name."""
        e = 2**house.many - 1
        self.assertSays(desk, f"bases {name}", shown_all(bases_of(house)))
        self.assertSays(desk, f"closed {name} {shown(e)}", shown(e))
        if house.many < 8:
            self.assertRefused(desk, f"rank {name} {shown(e + 1)}", NoFit)

    def assertRefused(self, desk, line, refusal):
        with self.assertRaises(refusal) as taken:
            desk.say(line)
        self.assertIs(type(taken.exception), refusal, line)
        self.assertIsInstance(taken.exception, HouseError)
        self.assertIsInstance(taken.exception, ValueError)
        return taken.exception


class Making(DeskTest):
    def test_even(self):
        desk = Desk()
        for n in range(9):
            for k in range(n + 1):
                self.assertSays(desk, f"a = even {n} {k}", "ok")
                self.assertHouse(desk, "a", Even(n, k))

    def test_bases(self):
        desk = Desk()
        for n, bases in helper.some_bases():
            self.assertSays(desk, f"a = bases {n} {shown_all(bases)}", "ok")
            self.assertHouse(desk, "a", Listed(n, bases))

    def test_rings_and_flats(self):
        desk = Desk()
        for n, bases in helper.some_bases()[::2] + helper.some_bases()[-6:]:
            ranks, rings, flats = helper.tellings_by(n, bases)
            for word, sets in [("rings", rings), ("flats", flats)]:
                self.assertSays(desk, " ".join([f"a = {word} {n}"] + [shown(s) for s in sets]), "ok")
                self.assertHouse(desk, "a", Listed(n, bases))

    def test_sets_in_any_order_and_twice(self):
        desk = self.told(["a = bases 4 cd ab bc ab ad ac bd cd", "b = rings 4 bcd abc acd abd abc", "c = even 4 2",
                          "d = flats 4 abcd c - a d b - abcd", "e = bases 2 - -", "f = rings 2 b a b", "g = even 2 0",
                          "h = flats 1 a a", "i = bases 0 - - -", "j = flats 0 - -"])
        for name in "abd":
            self.assertSays(desk, f"same {name} c", "yes")
        for name in "ef":
            self.assertSays(desk, f"same {name} g", "yes")
        self.assertSays(desk, "bases h", "-")
        self.assertSays(desk, "same i j", "yes")

    def test_no_sets(self):
        desk = self.told([f"a{letter} = rings {n}" for n, letter in enumerate("abcdefghi")])
        for n, letter in enumerate("abcdefghi"):
            self.assertSays(desk, f"rings a{letter}", "none")
            self.assertSays(desk, f"bases a{letter}", shown(2**n - 1))

    def test_nets(self):
        desk = self.told(["a = net 0", "b = net 9", "c = net 1 00", "d = net 4 01 12 20 23", "e = net 9 08 80 88 78",
                          "f = net 3 01 12 20 01 12 20 11 02"])
        self.assertHouse(desk, "a", House(0))
        self.assertHouse(desk, "b", House(0))
        self.assertHouse(desk, "c", House(1))
        self.assertHouse(desk, "d", Net(4, 4, [(0, 1), (1, 2), (2, 0), (2, 3)]))
        self.assertHouse(desk, "e", Net(4, 9, [(0, 8), (8, 0), (8, 8), (7, 8)]))
        self.assertSays(desk, "rings e", "ab c")
        self.assertSays(desk, "rank f abcdefgh", "2")
        for points in range(10):
            for n in range(9 if points else 1):
                ties = [(k % points, (k * k + 1) % points) for k in range(n)]
                self.assertSays(desk, f"g = net {points}" + "".join(f" {one}{other}" for one, other in ties), "ok")
                self.assertHouse(desk, "g", Net(n, points, ties))

    def test_tables(self):
        desk = Desk()
        numbers = helper.strewn(61)
        for prime in [0] + helper.PRIMES:
            for n, rows in [(0, 0), (1, 8), (3, 2), (4, 0), (5, 3)]:
                table = [[next(numbers) % 7 - 3 for k in range(n)] for row in range(rows)]
                self.assertSays(desk, f"a = table {prime} {n}{numbers_of(table)}", "ok")
                self.assertHouse(desk, "a", Tabled(n, prime, table))
        for rows in range(9):
            table = [[(k + row) ** 2 % 5 - 2 for k in range(8)] for row in range(rows)]
            self.assertSays(desk, f"a = table 0 8{numbers_of(table)}", "ok")
            self.assertHouse(desk, "a", Tabled(8, 0, table))

    def test_tables_with_numbers_of_60_figures(self):
        desk = Desk()
        table = [[LONG, -LONG, 10**60 - 1], [2 * LONG, -2 * LONG, 1 - 10**60], [0, -1, 1]]
        for prime in [0, 2, 3, 97]:
            self.assertSays(desk, f"a = table {prime} 3{numbers_of(table)}", "ok")
            self.assertHouse(desk, "a", Tabled(3, prime, table))

    def test_houses_of_houses(self):
        net = Net(4, 4, [(0, 1), (1, 2), (2, 0), (2, 3)])
        desk = self.told(["a = net 4 01 12 20 23", "b = other a", "c = even 3 1"])
        self.assertHouse(desk, "b", Other(net))
        for s in range(16):
            self.assertSays(desk, f"d = out a {shown(s)}", "ok")
            self.assertHouse(desk, "d", Minor(net, s, 0))
            self.assertSays(desk, f"d = drawn a {shown(s)}", "ok")
            self.assertHouse(desk, "d", Minor(net, 0, s))
        self.assertSays(desk, "e = side a c", "ok")
        self.assertHouse(desk, "e", Side(net, Even(3, 1)))
        self.assertSays(desk, "e = side c a", "ok")
        self.assertHouse(desk, "e", Side(Even(3, 1), net))
        self.assertSays(desk, "e = side a a", "ok")
        self.assertHouse(desk, "e", Side(net, net))

    def test_a_name_that_stands_for_another_house_later(self):
        desk = self.told(["a = even 4 2", "b = other a", "c = side a b", "d = out a a", "e = drawn a a"])
        before = [desk.say(f"bases {name}") for name in "bcde"]
        self.assertSays(desk, "a = even 3 3", "ok")
        self.assertEqual([desk.say(f"bases {name}") for name in "bcde"], before)
        self.assertTalk(desk, [
            ("bases a", "abc"), ("a = other a", "ok"), ("bases a", "-"), ("a = side a a", "ok"), ("bases a", "-"),
            ("closed a -", "abcdef"), ("b = drawn c a", "ok"),
        ])
        self.assertHouse(desk, "b", Side(Even(3, 1), Even(4, 2)))

    def test_names(self):
        names = ["a", "z", "abcdefgh", "zzzzzzzz", "qqqqqqq"] + WORDS
        desk = Desk()
        for place, name in enumerate(names):
            self.assertSays(desk, f"{name} = even 8 {place % 9}", "ok")
        for place, name in enumerate(names):
            self.assertSays(desk, f"rank {name} abcdefgh", str(place % 9))
            self.assertSays(desk, f"same {name} {name}", "yes")
            self.assertSays(desk, f"{name} = other {name}", "ok")
            self.assertSays(desk, f"rank {name} abcdefgh", str(8 - place % 9))
        desk = self.told(["bases = even 2 1", "rings = side bases bases", "heaviest = out rings a"])
        self.assertTalk(desk, [
            ("bases bases", "a b"), ("rings rings", "ab cd"), ("heaviest heaviest 1 2 3", "ac"),
            ("bases = bases 1 a", "ok"), ("bases bases", "a"),
        ])

    def test_two_desks(self):
        one, other = Desk(), Desk()
        self.assertSays(one, "a = even 3 1", "ok")
        self.assertRefused(other, "bases a", NoName)
        self.assertSays(other, "a = even 3 2", "ok")
        self.assertSays(other, "b = other a", "ok")
        self.assertSays(one, "bases a", "a b c")
        self.assertSays(other, "bases a", "ab ac bc")
        self.assertRefused(one, "bases b", NoName)
        self.assertSays(one, "b = even 1 1", "ok")
        self.assertSays(other, "bases b", "a b c")

    def test_through_many_lines(self):
        desk = self.told(["a = even 8 3"])
        for turn in range(58):
            self.assertSays(desk, "a = other a", "ok")
        self.assertSays(desk, "bases a", shown_all(subsets(8, 3)))
        desk = self.told(["a = net 4 01 12 20 23"])
        plain = ranks_of(Net(4, 4, [(0, 1), (1, 2), (2, 0), (2, 3)]))
        one = ranks_of(Even(1, 1))
        for turn in range(19):
            self.assertSays(desk, "b = even 1 1", "ok")
            self.assertSays(desk, "a = side b a", "ok")
            self.assertSays(desk, f"a = {['out', 'drawn'][turn % 2]} a {'bcde'[turn % 4]}", "ok")
            plain = helper.side_ranks(one, plain)
            s = 2 ** (1 + turn % 4)
            plain = helper.minor_ranks(plain, s, 0) if turn % 2 == 0 else helper.minor_ranks(plain, 0, s)
            self.assertSays(desk, "bases a", shown_all(helper.bases_by(plain)))


class Asking(DeskTest):
    def houses(self):
        """Houses with their ways to the desk: by their bases, so that any house may come."""
        some = [(label, house) for label, house in helper.all_houses() + helper.deep_houses()]
        return [(label, house) for label, house in some[::4] if len(telling(house)) < 900]

    def test_of_one_house(self):
        for label, house in self.houses():
            desk = self.told([f"a = {telling(house)}"])
            ranks, n = ranks_of(house), house.many
            ranks, rings, flats = helper.tellings_by(n, bases_of(house))
            free = [s for s in range(2**n) if ranks[s] == len(members(s))]
            self.assertSays(desk, "bases a", shown_all(bases_of(house)))
            self.assertSays(desk, "rings a", shown_all(rings) if rings else "none")
            self.assertSays(desk, "flats a", shown_all(flats))
            self.assertSays(desk, "frees a", shown_all(free))
            spanning = [s for s in range(2**n) if ranks[s] == ranks[-1]]
            self.assertSays(desk, "counts a", f"{len(bases_of(house))} {len(free)} {len(spanning)}")
            for line, look in [("two a", over_two), ("three a", over_three), ("all a", over_all)]:
                self.assertSays(desk, line, "yes" if look(house)[0] == "table" else "no")

    def test_of_every_set(self):
        for label, house in self.houses()[::4]:
            desk = self.told([f"a = {telling(house)}"])
            n = house.many
            ranks, rings, flats = helper.tellings_by(n, bases_of(house))
            for s in range(2**n):
                self.assertSays(desk, f"rank a {shown(s)}", str(ranks[s]))
                over = [k for k in range(n) if ranks[s | 2**k] == ranks[s]]
                self.assertSays(desk, f"closed a {shown(s)}", shown(helper.number(over)))

    def test_same(self):
        desk = self.told(["a = even 4 2", "b = table 3 4 1 0 1 1 0 1 1 2", "c = even 5 2", "d = bases 4 ab ac ad bc bd",
                          "e = even 0 0", "f = net 9", "g = even 1 0", "h = even 2 0"])
        said = {("a", "b"), ("b", "a"), ("e", "f"), ("f", "e")} | {(name, name) for name in "abcdefgh"}
        for one, other in itertools.product("abcdefgh", repeat=2):
            self.assertSays(desk, f"same {one} {other}", "yes" if (one, other) in said else "no")

    def test_tables_over_two_three_and_all(self):
        seven = " ".join(shown(base) for base in helper.SEVEN)
        desk = self.told(["a = even 4 2", f"b = bases 7 {seven}", "c = other b", "d = net 3 01 12 20", "e = even 5 2",
                          "f = even 5 3", "g = even 0 0", "h = side d a"])
        told = {"a": "no yes no", "b": "yes no no", "c": "yes no no", "d": "yes yes yes", "e": "no no no",
                "f": "no no no", "g": "yes yes yes", "h": "no yes no"}
        for name, answers in told.items():
            self.assertEqual(" ".join(desk.say(f"{word} {name}") for word in ["two", "three", "all"]), answers, name)

    def test_common(self):
        desk = self.told(["a = bases 4 ac ad bc bd", "b = bases 4 ab bc ad cd", "c = even 4 1", "d = even 0 0",
                          "e = bases 4 a", "f = bases 4 b"])
        for one, other, most in [("a", "b", 2), ("b", "a", 2), ("a", "c", 1), ("a", "a", 2), ("d", "d", 0),
                                 ("e", "f", 0), ("a", "e", 1)]:
            self.assertSays(desk, f"common {one} {other}", str(most))
        for houses in helper.by_many(self.houses()):
            for (label, one), (other_label, other) in zip(houses[::2], houses[1::2]):
                desk = self.told([f"a = {telling(one)}", f"b = {telling(other)}"])
                self.assertSays(desk, "common a b", str(len(members(common(one, other)[0]))))

    def test_heaviest(self):
        desk = self.told(["a = even 4 2", "b = even 0 0", "c = net 4 01 12 20 23", "d = even 8 1", "e = even 2 0"])
        self.assertTalk(desk, [
            ("heaviest a 1 5 3 4", "bd"), ("heaviest a -1 -5 -3 0", "ad"), ("heaviest a 0 0 0 0", "ab"),
            (f"heaviest a {LONG} {LONG + 1} {-LONG} {LONG}", "ab"),
            (f"heaviest a {-LONG} {-LONG} {1 - LONG} {-LONG - 1}", "ac"), ("heaviest b", "-"),
            ("heaviest c 1 2 3 -4", "bcd"), ("heaviest d 1 2 3 4 5 6 8 7", "g"), ("heaviest e 3 4", "-"),
        ])
        for label, house in self.houses()[::3]:
            desk = self.told([f"a = {telling(house)}"])
            weights = [(k * 5 + 3) % 7 - 3 for k in range(house.many)]
            line = "heaviest a" + "".join(f" {weight}" for weight in weights)
            self.assertSays(desk, line, shown(heaviest(house, weights)))

    def test_worth(self):
        desk = self.told(["a = even 4 2", "b = even 0 0", "c = rings 1 a", "d = even 8 8"])
        self.assertTalk(desk, [
            ("worth a 1 1", "6"), ("worth a 0 0", "0"), ("worth a -1 0", "-1"), ("worth a 2 -3", "11"),
            ("worth a -3 -1", "2"), ("worth b 0 0", "1"), ("worth c 5 -7", "-7"), (f"worth d {-LONG} 0", str(LONG**8)),
            (f"worth c 0 {-LONG}", str(-LONG)),
        ])
        for label, house in self.houses()[::3]:
            desk = self.told([f"a = {telling(house)}"])
            for x, y in [(0, 0), (1, 0), (-2, 3), (4, -5), (LONG, -LONG)]:
                plain = sum(c * x**i * y**j for i, j, c in polynomial(house))
                self.assertSays(desk, f"worth a {x} {y}", str(plain))

    def test_asking_changes_nothing(self):
        desk = self.told(["a = net 4 01 12 20 23", "b = even 4 2"])
        lines = ["bases a", "rings a", "flats a", "frees a", "rank a abd", "closed a ab", "same a b", "two b",
                 "three b", "all a", "common a b", "heaviest a 1 2 3 4", "counts a", "worth a -2 3"]
        said = [desk.say(line) for line in lines]
        self.assertEqual([desk.say(line) for line in lines[::-1]], said[::-1])
        self.assertEqual(said[:2] + said[4:10], ["abd acd bcd", "abc", "3", "abc", "no", "no", "yes", "yes"])


class Refusing(DeskTest):
    def desk(self):
        return self.told(["a = net 4 01 12 20 23", "b = even 4 2", "c = even 5 2", "d = even 0 0",
                          "abcdefgh = even 8 1"])

    def assertNothingChanged(self, desk):
        for name, house in [("a", Net(4, 4, [(0, 1), (1, 2), (2, 0), (2, 3)])), ("b", Even(4, 2)), ("c", Even(5, 2)),
                            ("d", Even(0, 0)), ("abcdefgh", Even(8, 1))]:
            self.assertSays(desk, f"bases {name}", shown_all(bases_of(house)))
        self.assertRefused(desk, "bases x", NoName)

    def assertAll(self, lines, refusal):
        desk = self.desk()
        for line in lines:
            self.assertRefused(desk, line, refusal)
            # Told again it is refused again.
            self.assertRefused(desk, line, refusal)
        self.assertNothingChanged(desk)

    RIGHT = [
        "x = even 8 8", "x = even 0 0", "x = bases 3 ab ac", "x = rings 3 abc", "x = flats 2 - ab", "x = net 9 08 12",
        "x = table 97 4 -2 1 3 0", "x = other a", "x = out a b", "x = drawn a -", "x = side a b", "bases a", "rings a",
        "flats a", "frees a", "rank a ab", "closed a -", "same a b", "two a", "three a", "all a", "common a b",
        "heaviest a 1 -2 0 4", "counts a", "worth a 3 -4",
    ]

    def test_the_right_lines_are_taken(self):
        for line in self.RIGHT:
            self.assertIs(type(self.desk().say(line)), str, line)

    def test_blanks(self):
        lines = ["", " ", "  "]
        for line in self.RIGHT:
            lines += [" " + line, line + " "]
            lines += [line[:place] + " " + line[place:] for place, sign in enumerate(line) if sign == " "]
        self.assertAll(lines, NoLine)

    def test_a_word_more(self):
        for word in ["a", "-", "1", "=", "x", "0"]:
            lines = []
            for line in self.RIGHT:
                verb = line.split(" ")[2] if " = " in line else line.split(" ")[0]
                # A set more, a tie more and a weight more may be right.
                if not (verb in ("bases", "rings", "flats") and " = " in line and word in "a-"):
                    if verb != "heaviest" or word not in "10":
                        lines.append(line + " " + word)
            self.assertAll(lines, NoLine)

    def test_a_word_less(self):
        lines = []
        for line in self.RIGHT:
            words = line.split(" ")
            verb = words[2] if " = " in line else words[0]
            for place in range(len(words)):
                tail = place >= (4 if " = " in line else 2)
                may = verb in ("net", "heaviest") or (verb in ("bases", "rings", "flats") and " = " in line)
                if not (may and tail):
                    lines.append(" ".join(words[:place] + words[place + 1:]))
        self.assertAll(lines, NoLine)

    def test_words_that_are_none(self):
        self.assertAll([
            "a", "=", "a =", "a = ", "= even 1 1", "a == even 1 1", "a=even 1 1", "a = evens 1 1", "a = even",
            "x = frees a", "x = rank a -", "x = counts a", "x = worth a 1 1", "x = common a b", "x = same a b",
            "x = two a", "x = a", "x = heaviest b 1 1 1 1", "even 2 1", "net 3 01", "table 2 1 1", "other a", "out a a",
            "drawn a a", "side a b", "base a", "Bases a", "BASES a", "bases A", "bases a1", "bases -", "bases =",
            "bases 1", "bases a,b", "x = Even 1 1", "X = even 1 1", "x1 = even 1 1", "x- = even 1 1", "_ = even 1 1",
            "1 = even 1 1", "- = even 1 1", "abcdefghi = even 1 1", "bases abcdefghi", "same a abcdefghi",
            "same abcdefghi a", "x = other abcdefghi", "x = side a abcdefghi", "rank abcdefghi a", "heaviest abcdefghi",
            "worth abcdefghi 1 1", "= = even 1 1", "x = = even 1 1", "x = y = even 1 1", "x even 1 1", "ok", "none",
            "yes", "x - even 1 1", "x 1 even 1 1", "x < even 1 1", "x > even 1 1", "x = even", "x = bases", "x = rings",
            "x = flats", "x = net", "x = table", "x = table 2", "x = other", "x = out", "x = drawn", "x = side",
            "bases", "rings", "flats", "frees", "rank", "closed", "same", "two", "three", "all", "common", "heaviest",
            "counts", "worth",
        ], NoLine)

    def test_numbers_beyond_their_bounds(self):
        self.assertAll([
            "x = even 9 0", "x = even 9 9", "x = even 10 1", "x = even 3 4", "x = even 0 1", "x = even 8 9",
            "x = even 100000000000000000000 1", "x = even 1 100000000000000000000", "x = bases 9 a", "x = rings 9",
            "x = flats 9 -", "x = bases 10 a", "x = bases 99 -", "x = net 10", "x = net 10 01", "x = net 11",
            "x = net 99 01", "x = table 1 1 1", "x = table 4 1 1", "x = table 9 1 1", "x = table 91 1 1",
            "x = table 99 1 1", "x = table 100 1 1", "x = table 101 1 1", "x = table 103 1 1", "x = table 0 9",
            "x = table 2 9 1 1 1 1 1 1 1 1 1", "x = table 2 10",
        ], NoLine)

    def test_every_number_of_r(self):
        desk = Desk()
        for prime in range(130):
            line = f"x = table {prime} 2 1 2"
            if prime == 0 or prime in helper.PRIMES:
                self.assertSays(desk, line, "ok")
            else:
                self.assertRefused(desk, line, NoLine)

    def test_how_numbers_are_written(self):
        wrong = ["00", "01", "-0", "-1", "+1", "1.", "1.0", "a", "-", "=", "1-", "--1", "0x1", "1_0", "1e1", ",", "A"]
        lines = []
        for word in wrong:
            lines += [f"x = even {word} 0", f"x = even 8 {word}", f"x = bases {word} -", f"x = rings {word}",
                      f"x = flats {word} -", f"x = net {word}", f"x = table {word} 1 1", f"x = table 2 {word}"]
        for word in [word for word in wrong if word != "-1"] + ["-01", "-00", "--0", "- 1"]:
            lines += [f"x = table 2 1 {word}", f"x = table 2 2 1 {word}", f"heaviest a 1 {word} 1 1",
                      f"heaviest a {word}", f"worth a {word} 1", f"worth a 1 {word}"]
        self.assertAll(lines, NoLine)

    def test_how_sets_are_written(self):
        lines = []
        for word in ["ba", "aa", "abab", "--", "-a", "a-", "i", "ai", "z", "A", "aB", "0", "1", "=", "a,b", "hg",
                     "abcdefghi"]:
            lines += [f"x = bases 8 {word}", f"x = rings 8 a {word}", f"x = flats 8 {word} -", f"x = out a {word}",
                      f"x = drawn a {word}", f"rank a {word}", f"closed a {word}"]
        self.assertAll(lines, NoLine)

    def test_a_letter_beyond_n(self):
        desk = Desk()
        for n in range(9):
            for k, letter in enumerate("abcdefgh"):
                for line in [f"x = bases {n} {letter}", f"x = rings {n} {letter}"]:
                    if k < n:
                        self.assertSays(desk, line, "ok")
                    else:
                        self.assertRefused(desk, line, NoLine)
        # Also where the list of sets is one with a break.
        self.assertAll(["x = bases 3 ab d", "x = bases 2 c", "x = bases 0 a", "x = flats 3 - abcd", "x = flats 2 c",
                        "x = rings 3 - d", "x = bases 4 ab cd e", "x = bases 7 abcdefgh"], NoLine)

    def test_ties(self):
        lines = ["x = net 9" + " 01" * 9, "x = net 2 01 01 01 01 01 01 01 01 01", "x = net 0 00", "x = net 1 01",
                 "x = net 1 10"]
        lines += ["x = net 9 09", "x = net 9 90", "x = net 9 99", "x = net 8 08", "x = net 3 30", "x = net 3 01 23"]
        for word in ["0", "012", "0-1", "-1", "a", "ab", "0a", "a0", "0,1", "-", "=", "00 1"]:
            lines += [f"x = net 9 {word}", f"x = net 9 01 {word} 12"]
        self.assertAll(lines, NoLine)
        desk = Desk()
        for points in range(10):
            for one, other in itertools.product(range(10), repeat=2):
                line = f"x = net {points} {one}{other}"
                if one < points and other < points:
                    self.assertSays(desk, line, "ok")
                else:
                    self.assertRefused(desk, line, NoLine)

    def test_rows(self):
        desk = Desk()
        for n in range(9):
            for many in range(70):
                line = f"x = table 2 {n}" + " 1" * many
                if (n == 0 and many == 0) or (n > 0 and many % n == 0 and many // n <= 8):
                    self.assertSays(desk, line, "ok")
                else:
                    self.assertRefused(desk, line, NoLine)

    def test_no_name(self):
        lines = ["bases x", "rings x", "flats x", "frees x", "rank x -", "closed x ab", "same x a", "same a x",
                 "same x x", "two x", "three x", "all x", "common x a", "common a x", "heaviest x", "heaviest x 1 2 3",
                 "counts x", "worth x 1 1", "y = other x", "x = other x", "x = out x a", "x = drawn x -",
                 "x = side x a",
                 "x = side a x", "bases even", "bases bases", "same a ab", "bases abcdefg"]
        # A name comes before what does not fit.
        lines += ["rank x h", "closed x abcdefgh", "x = out x h", "common c x", "common x d", "x = side abcdefgh x",
                  "x = side x abcdefgh", "heaviest x 1 2 3 4 5 6 7 8"]
        self.assertAll(lines, NoName)

    def test_no_line_comes_before_no_name(self):
        self.assertAll(["bases x y", "rank x i", "rank x ba", "heaviest x 1 2 3 4 5 6 7 8 9", "heaviest x 01",
                        "worth x 1", "worth x 1 -0", "x = out x", "x = side x", "same x", "y = drawn x aa", "two x x",
                        "x = other x x",
                        "heaviest a 1 2 3 4 5 6 7 8 9", "rank d i"], NoLine)

    def test_no_fit(self):
        lines = ["rank a e", "rank a abcde", "rank a h", "rank d a", "rank c f", "closed a e", "closed d a",
                 "closed b ah", "x = out a e", "x = out d a", "x = drawn a h", "x = drawn d a", "x = drawn c abcdef",
                 "common a c", "common c a", "common d a", "common abcdefgh a", "x = side a c", "x = side c a",
                 "x = side c c", "x = side abcdefgh a", "x = side c b", "heaviest a", "heaviest a 1 2 3",
                 "heaviest a 1 2 3 4 5", "heaviest d 1", "heaviest abcdefgh 1 2 3 4 5 6 7", "heaviest abcdefgh",
                 "x = side abcdefgh abcdefgh",
                 "a = side c b", "a = out a e", "heaviest c 0 0 0 0"]
        self.assertAll(lines, NoFit)

    def test_what_just_fits(self):
        desk = self.desk()
        self.assertTalk(desk, [
            ("x = side a b", "ok"), ("x = side abcdefgh d", "ok"), ("x = side d abcdefgh", "ok"),
            ("rank abcdefgh h", "1"), ("rank d -", "0"), ("common a b", "2"), ("same a c", "no"), ("heaviest d", "-"),
        ])

    def test_no_house(self):
        desk = self.desk()
        told = [("x = bases 3", (0, 0, -1)), ("x = bases 0", (0, 0, -1)), ("a = bases 4 ab cd", (3, 12, 0)),
                ("x = bases 4 cd ab cd", (3, 12, 0)), ("x = bases 2 a ab", (3, 1, 1)), ("x = rings 2 -", (0, 0, -1)),
                ("x = rings 2 - a", (0, 0, -1)), ("x = rings 2 ab a", (1, 3, -1)), ("x = rings 3 bc ab", (3, 6, 1)),
                ("x = flats 3", (7, 7, -1)), ("x = flats 3 - a", (7, 7, -1)), ("x = flats 2 ab b a", (1, 2, -1)),
                ("x = flats 0", (0, 0, -1)), ("b = flats 3 abc ab -", (0, 7, 0))]
        for line, fields in told:
            found = self.assertRefused(desk, line, NoHouse)
            self.assertEqual((found.one, found.other, found.thing), fields, line)
        self.assertNothingChanged(desk)

    def test_no_house_with_the_first_break(self):
        desk = Desk()
        looks = [("bases", helper.plain_bases), ("rings", helper.plain_rings), ("flats", helper.plain_flats)]
        for n in range(3):
            for sets in helper.lists_of_sets(n):
                self.assertTold(desk, looks, n, sets)
        for n in [3, 4, 5]:
            for sets in helper.strewn_lists(n, 60, 70 + n):
                self.assertTold(desk, looks, n, sets)

    def assertTold(self, desk, looks, n, sets):
        for word, look in looks:
            line = " ".join([f"x = {word} {n}"] + [shown(s) for s in sets[::-1]])
            fields = look(n, sets)
            if fields is None:
                self.assertSays(desk, line, "ok")
                self.assertSays(desk, f"{word} x", shown_all(sets) if sets else "none")
            else:
                found = self.assertRefused(desk, line, NoHouse)
                self.assertEqual((found.one, found.other, found.thing), fields, line)

    def test_a_refused_line_is_taken_when_it_is_due(self):
        desk = Desk()
        self.assertTalk(desk, [
            ("b = other a", NoName), ("bases b", NoName), ("a = even 4 1", "ok"), ("b = other a", "ok"),
            ("bases b", "abc abd acd bcd"), ("rank a abcde", NoFit), ("common a c", NoName), ("c = even 5 3", "ok"),
            ("common a c", NoFit), ("a = side a c", NoFit), ("a = even 5 1", "ok"), ("rank a abcde", "1"),
            ("common a c", "1"), ("c = even 3 3", "ok"), ("a = side a c", "ok"), ("common a c", NoFit),
            ("rank a abcdefgh", "4"),
        ])

    def test_a_refused_line_leaves_its_name_as_it_was(self):
        desk = self.desk()
        for line, refusal in [("a = even 9 1", NoLine), ("a = other x", NoName), ("a = side a c", NoFit),
                              ("a = bases 4 ab cd", NoHouse), ("x = bases 4", NoHouse), ("x = even 2 3", NoLine),
                              ("x = side c c", NoFit), ("x = other y", NoName)]:
            self.assertRefused(desk, line, refusal)
            self.assertNothingChanged(desk)


SIGNS = "abdehiz-=0125 9A"


class Strewn(DeskTest):
    """Lines of strewn words and strewn signs: each is answered or refused, and by nothing but the told refusals."""

    def test_strewn_words(self):
        numbers = helper.strewn(81)
        words = WORDS[:21] + ["=", "a", "b", "ab", "-", "0", "1", "2", "3", "01", "-1", "x", "abc", "d"]
        desk = self.told(["a = even 2 1", "b = net 3 01 12 20", "ab = even 0 0"])
        answered = 0
        for turn in range(6000):
            line = " ".join(words[next(numbers) % len(words)] for place in range(1 + next(numbers) % 5))
            try:
                answered += type(desk.say(line)) is str
            except (NoLine, NoName, NoFit, NoHouse) as refusal:
                self.assertIsNot(type(refusal), HouseError)
        self.assertGreater(answered, 10)

    def test_one_sign_changed(self):
        numbers = helper.strewn(82)
        for line in Refusing.RIGHT:
            for place in range(len(line)):
                for turn in range(4):
                    desk = self.told(["a = net 4 01 12 20 23", "b = even 4 2"])
                    changed = line[:place] + SIGNS[next(numbers) % len(SIGNS)] + line[place + 1:]
                    try:
                        self.assertIs(type(desk.say(changed)), str)
                    except (NoLine, NoName, NoFit, NoHouse) as refusal:
                        self.assertNotIsInstance(refusal, NoSet)
                        self.assertSays(desk, "bases a", "abd acd bcd")


if __name__ == "__main__":
    unittest.main()
