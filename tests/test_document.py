"""The document once more, over the whole program: a test for each of its points."""

import ast
import importlib
import inspect
import itertools
import pathlib
import unittest

import helper
from basehouse.barred import kind_of
from basehouse.breaks import broken_bases, broken_flats, broken_ranks, broken_rings
from basehouse.common import common
from basehouse.dealt import dealt
from basehouse.desk import Desk
from basehouse.errors import HouseError, NoFit, NoHouse, NoLine, NoName, NoSet
from basehouse.fields import over_all, over_three, over_two
from basehouse.houses import Even, House, Listed
from basehouse.names import read, read_all, shown, shown_all
from basehouse.nets import Net
from basehouse.pivots import determinant, rank_of
from basehouse.poly import colourings, counts, polynomial, worth
from basehouse.sets import choices, lowest, parts, pressed, set_of, size, spread, things, within
from basehouse.tables import Tabled
from basehouse.tellings import bases, closed, flats, frees, of_bases, of_flats, of_ranks, of_rings
from basehouse.tellings import ranks, rings, whole_rank
from basehouse.turned import Minor, Other, Side
from basehouse.weights import heaviest, weight_of

PACKAGE = pathlib.Path(__file__).resolve().parent.parent / "basehouse"
HOUSES = helper.all_houses()[::5] + helper.deep_houses()[::5]
LONG = 10**60 - 1
SEVEN = Listed(7, helper.SEVEN)

INTERFACE = {
    "sets": {"size": ["s"], "things": ["s"], "set_of": ["some"], "lowest": ["s"], "within": ["s", "t"], "parts": ["s"],
             "choices": ["s", "k"], "pressed": ["s", "kept"], "spread": ["s", "kept"]},
    "names": {"shown": ["s"], "read": ["text"], "shown_all": ["sets"], "read_all": ["text"]},
    "breaks": {"broken_bases": ["n", "bases"], "broken_rings": ["n", "rings"], "broken_ranks": ["n", "ranks"],
               "broken_flats": ["n", "flats"]},
    "houses": {"House": ["n"], "Even": ["n", "k"], "Listed": ["n", "some"]},
    "pivots": {"rank_of": ["rows", "prime"], "determinant": ["rows"]},
    "tables": {"Tabled": ["n", "prime", "rows"]},
    "nets": {"Net": ["n", "points", "ties"]},
    "turned": {"Other": ["house"], "Minor": ["house", "out", "drawn"], "Side": ["one", "other"]},
    "tellings": {"whole_rank": ["house"], "bases": ["house"], "frees": ["house"], "rings": ["house"],
                 "flats": ["house"], "ranks": ["house"], "closed": ["house", "s"], "of_bases": ["n", "bases"],
                 "of_rings": ["n", "rings"], "of_flats": ["n", "flats"], "of_ranks": ["n", "ranks"]},
    "weights": {"weight_of": ["s", "weights"], "heaviest": ["house", "weights"]},
    "common": {"common": ["one", "other"]},
    "dealt": {"dealt": ["houses"]},
    "barred": {"kind_of": ["house"]},
    "fields": {"over_two": ["house"], "over_three": ["house"], "over_all": ["house"]},
    "poly": {"polynomial": ["house", "order"], "worth": ["poly", "x", "y"], "counts": ["house"],
             "colourings": ["net", "k"]},
    "desk": {"Desk": []},
}


def told_of(house):
    """Everything that is told of a house, and of it with itself, by what is asked."""
    n = house.many
    weights = [(k * 3) % 5 - 2 for k in range(n)]
    return {
        "many": n, "everything": house.everything(), "whole_rank": whole_rank(house), "bases": bases(house),
        "frees": frees(house), "rings": rings(house), "flats": flats(house), "ranks": ranks(house),
        "closed": [closed(house, s) for s in parts(house.everything())], "heaviest": heaviest(house, weights),
        "common": common(house, house), "dealt": dealt([house, house]), "kind_of": kind_of(house),
        "over_two": over_two(house), "over_three": over_three(house), "over_all": over_all(house),
        "polynomial": polynomial(house), "counts": counts(house), "worth": worth(polynomial(house), 3, -2),
    }


def leaves(value):
    """All whole numbers, texts and so on within lists and tuples."""
    if isinstance(value, (list, tuple)):
        return [leaf for part in value for leaf in leaves(part)]
    return [value]


def spoil(value):
    """Changes every list within a told value."""
    if isinstance(value, (list, tuple)):
        for part in value:
            spoil(part)
    if isinstance(value, list):
        value.reverse()
        value.append(-99)


class Before(unittest.TestCase):
    def test_the_interface(self):
        for module, names in INTERFACE.items():
            found = importlib.import_module(f"basehouse.{module}")
            for name, arguments in names.items():
                self.assertEqual(list(inspect.signature(getattr(found, name)).parameters), arguments, name)
        self.assertIsNone(inspect.signature(polynomial).parameters["order"].default)
        self.assertEqual(list(inspect.signature(Desk().say).parameters), ["line"])
        self.assertEqual(list(inspect.signature(Net(0, 0, []).pieces).parameters), ["s"])
        for house in [House(2), Even(2, 1), Listed(2, [1]), Tabled(2, 0, []), Net(2, 1, [(0, 0)] * 2), Other(House(2)),
                      Minor(House(2), 0, 0), Side(House(1), House(1))]:
            self.assertIsInstance(house, House)
            self.assertEqual(list(inspect.signature(house.rank).parameters), ["s"])
            self.assertEqual((house.many, house.everything(), house.rank(0)), (2, 3, 0))

    def test_01_sets_are_whole_numbers(self):
        for label, house in HOUSES:
            for asked, value in told_of(house).items():
                for leaf in leaves(value):
                    self.assertIn(type(leaf), (int, str, type(None)), (label, asked))
            sets = parts(house.everything())
            self.assertEqual(sets, list(range(2**house.many)))
        for n in range(9):
            self.assertEqual((House(n).many, House(n).everything()), (n, 2**n - 1))

    def test_02_what_a_house_is(self):
        for label, house in HOUSES:
            told, n = ranks(house), house.many
            self.assertIsNone(helper.plain_ranks(n, told) if n < 6 else broken_ranks(n, told), label)
            self.assertEqual(told[0], 0)
            free = [s for s in range(2**n) if told[s] == size(s)]
            self.assertEqual(frees(house), free)
            self.assertEqual(bases(house), [s for s in free if told[s] == told[-1]])
            self.assertEqual(counts(house)[2], len([s for s in range(2**n) if told[s] == told[-1]]))
            self.assertEqual(flats(house), [s for s in range(2**n) if closed(house, s) == s])
            self.assertTrue(all(told[ring] == size(ring) - 1 for ring in rings(house)))

    def test_03_what_is_told_is_the_askers_own(self):
        for label, house in HOUSES[::2]:
            first, again = told_of(house), told_of(house)
            for value in again.values():
                spoil(value)
            third = told_of(house)
            for asked in ["bases", "frees", "rings", "flats", "ranks", "closed", "polynomial", "counts", "heaviest"]:
                self.assertEqual(first[asked], third[asked], (label, asked))
            for asked in ["over_two", "over_three", "over_all"]:
                self.assertEqual(first[asked][0], third[asked][0], (label, asked))

    def test_03_what_is_handed_in_stays_and_may_change_later(self):
        rows, ties, some = [[1, 0, 1], [0, 1, 1]], [(0, 1), (1, 2), (2, 0)], [3, 5, 6]
        houses = [Tabled(3, 2, rows), Net(3, 3, ties), Listed(3, some), of_bases(3, some)]
        made = houses + [Other(houses[0]), Side(houses[1], houses[2]), Minor(houses[2], 1, 2)]
        told = [ranks(house) for house in made]
        self.assertEqual((rows, ties, some), ([[1, 0, 1], [0, 1, 1]], [(0, 1), (1, 2), (2, 0)], [3, 5, 6]))
        rows[0][0] = 0
        rows.clear()
        ties[0] = (0, 0)
        some.pop()
        self.assertEqual([ranks(house) for house in made], told)
        order, terms, weights = [2, 0, 1], [(1, 0, 2)], [3, 2, 1]
        polynomial(houses[0], order), worth(terms, 2, 2), heaviest(houses[0], weights), dealt(houses[:3])
        self.assertEqual((order, terms, weights, len(houses)), ([2, 0, 1], [(1, 0, 2)], [3, 2, 1], 4))

    def test_03_no_clock_no_chance_no_files(self):
        for path in PACKAGE.glob("*.py"):
            for node in ast.walk(ast.parse(path.read_text(encoding="utf-8"))):
                self.assertNotIsInstance(node, ast.Import)
                if isinstance(node, ast.ImportFrom):
                    self.assertTrue(node.module.startswith("basehouse."), path)

    def test_04_numbers_of_60_figures_and_houses_six_deep(self):
        table = [[LONG, -LONG, 1, 0], [LONG - 1, 1 - LONG, LONG, -1]]
        house = Tabled(4, 0, table)
        self.assertEqual(ranks(house), ranks(Tabled(4, 97, [[1, -1, 1, 0], [0, 0, 2, 1]])))
        self.assertEqual(determinant([[LONG, 1], [-LONG, LONG]]), LONG * LONG + LONG)
        self.assertEqual(weight_of(3, [LONG, LONG]), 2 * LONG)
        self.assertEqual(worth([(1, 1, LONG)], -LONG, LONG), -(LONG**3))
        self.assertEqual(colourings(Net(1, 2, [(0, 1)]), LONG), LONG * (LONG - 1))
        told = told_of(house)
        for turn in range(3):
            house = Minor(Other(house), 0, 0)
            told_other = told_of(house)
        self.assertEqual(told_other["bases"], sorted(15 - base for base in told["bases"]))


class Sets(unittest.TestCase):
    def test_05_what_is_told_of_sets(self):
        self.assertEqual((size(0), size(255), things(0b1010), lowest(0), lowest(12)), (0, 8, [1, 3], None, 2))
        self.assertEqual((within(0, 0), within(2, 3), within(3, 2), set_of([3, 1, 3])), (True, True, False, 10))
        self.assertEqual((parts(5), choices(7, 2), choices(7, 9), choices(0, 0)), ([0, 1, 4, 5], [3, 5, 6], [], [0]))

    def test_06_pressed_and_spread(self):
        for kept in range(256):
            for s in [0, 0b10101010, 255, kept]:
                self.assertEqual(spread(pressed(s, kept), kept), s & kept)
        self.assertEqual((pressed(0b1001, 0b1010), spread(0b10, 0b1010)), (0b10, 0b1000))

    def test_07_texts(self):
        for s in range(256):
            self.assertEqual(read(shown(s)), s)
        self.assertEqual((shown(0), shown(255), shown_all([])), ("-", "abcdefgh", ""))
        self.assertEqual((read_all(""), read_all("- ab")), ([], [0, 3]))
        for text in ["", "ba", "aa", "i", "A", " ", "a ", "a b"]:
            self.assertRaises(NoSet, read, text)
        for text in [" ", "a  b", " a", "a ", "ba a", "- i"]:
            self.assertRaises(NoSet, read_all, text)


class Breaks(unittest.TestCase):
    def test_08_none_or_a_tuple(self):
        for look in [broken_bases, broken_rings, broken_flats]:
            for n in range(4):
                for sets in itertools.islice(helper.lists_of_sets(n), 0, 256, 3):
                    found = look(n, sets)
                    self.assertTrue(found is None or (type(found) is tuple and [type(x) for x in found] == [int] * 3))

    def test_09_bases(self):
        self.assertEqual(broken_bases(3, []), (0, 0, -1))
        self.assertEqual(broken_bases(4, [3, 12]), (3, 12, 0))
        self.assertIsNone(broken_bases(4, [3, 5, 6]))

    def test_10_rings(self):
        self.assertEqual(broken_rings(3, [0, 1]), (0, 0, -1))
        self.assertEqual(broken_rings(3, [1, 3]), (1, 3, -1))
        self.assertEqual(broken_rings(3, [3, 6]), (3, 6, 1))
        self.assertIsNone(broken_rings(3, [3, 5, 6]))

    def test_11_ranks(self):
        self.assertEqual(broken_ranks(1, [1, 1]), (0, 0, -1))
        self.assertEqual(broken_ranks(1, [0, 2]), (0, 1, -1))
        self.assertEqual(broken_ranks(2, [0, 0, 0, 1]), (1, 2, -1))
        self.assertIsNone(broken_ranks(2, [0, 1, 1, 1]))

    def test_12_flats(self):
        self.assertEqual(broken_flats(2, [0]), (3, 3, -1))
        self.assertEqual(broken_flats(2, [1, 2, 3]), (1, 2, -1))
        self.assertEqual(broken_flats(3, [0, 3, 7]), (0, 7, 0))
        self.assertIsNone(broken_flats(2, [0, 1, 2, 3]))


class Houses(unittest.TestCase):
    def test_13_first_houses(self):
        self.assertEqual(ranks(House(2)), [0, 0, 0, 0])
        self.assertEqual(ranks(Even(2, 1)), [0, 1, 1, 1])
        self.assertEqual(ranks(Listed(2, [2, 1, 2])), [0, 1, 1, 1])

    def test_14_tables(self):
        rows = [[1, 1, 2], [1, -1, 0]]
        self.assertEqual([Tabled(3, 0, rows).rank(s) for s in (3, 4, 7)], [2, 1, 2])
        self.assertEqual([Tabled(3, 2, rows).rank(s) for s in (3, 4, 7)], [1, 0, 1])
        self.assertEqual((rank_of(rows, 0), rank_of(rows, 2), determinant([])), (2, 1, 1))

    def test_15_nets(self):
        net = Net(3, 4, [(0, 1), (1, 0), (2, 2)])
        self.assertEqual((net.pieces(0), net.pieces(7), net.rank(7), net.rank(4)), (4, 3, 1, 0))

    def test_16_the_other_house(self):
        for label, house in HOUSES:
            e = house.everything()
            self.assertEqual(bases(Other(house)), sorted(e - base for base in bases(house)), label)

    def test_17_taken_out_and_drawn_together(self):
        for label, house in HOUSES:
            e = house.everything()
            out, drawn = e & 0b00100101, e & 0b10010010
            self.assertEqual(ranks(Minor(house, out, drawn)), helper.minor_ranks(ranks(house), out, drawn), label)

    def test_18_side_by_side(self):
        for (label, one), (other_label, other) in itertools.combinations(HOUSES, 2):
            if one.many + other.many in (7, 8):
                told = helper.side_ranks(ranks(one), ranks(other))
                self.assertEqual(ranks(Side(one, other)), told, (label, other_label))

    def test_19_what_is_told_of_any_house(self):
        for label, house in HOUSES:
            told, some_rings, some_flats = helper.tellings_by(house.many, helper.bases_of(house))
            self.assertEqual((ranks(house), rings(house), flats(house)), (told, some_rings, some_flats), label)
            self.assertEqual(whole_rank(house), told[-1])

    def test_20_back_to_a_listed_house(self):
        for label, house in HOUSES:
            n = house.many
            for made in [of_bases(n, bases(house)), of_rings(n, rings(house)), of_flats(n, flats(house)),
                         of_ranks(n, ranks(house))]:
                self.assertIs(type(made), Listed)
                self.assertEqual(ranks(made), ranks(house), label)
        with self.assertRaises(NoHouse) as taken:
            of_rings(3, [3, 6])
        self.assertEqual((taken.exception.one, taken.exception.other, taken.exception.thing), (3, 6, 1))


class Several(unittest.TestCase):
    def test_21_the_heaviest_base(self):
        self.assertEqual(heaviest(Even(4, 2), [1, 3, 3, 3]), 0b0110)
        for label, house in HOUSES:
            weights = [(k * 5 + 1) % 7 - 3 for k in range(house.many)]
            most = max(weight_of(base, weights) for base in bases(house))
            self.assertEqual(weight_of(heaviest(house, weights), weights), most, label)

    def test_22_common_free_sets(self):
        for label, house in HOUSES:
            e = house.everything()
            for other in [Other(house), Even(house.many, house.many // 2)]:
                s, bound = common(house, other)
                self.assertEqual((house.rank(s), other.rank(s)), (size(s), size(s)), label)
                self.assertEqual(size(s), house.rank(bound) + other.rank(e - bound), label)

    def test_23_things_dealt(self):
        for label, house in HOUSES:
            e = house.everything()
            houses = [house, Other(house), Even(house.many, house.many // 3)]
            sets, bound = dealt(houses)
            self.assertEqual([one.rank(s) for one, s in zip(houses, sets)], [size(s) for s in sets], label)
            many = size(sets[0] | sets[1] | sets[2])
            self.assertEqual(many, sum(size(s) for s in sets), label)
            self.assertEqual(many, size(e - bound) + sum(one.rank(bound) for one in houses), label)
            # A base and what it leaves out: nothing is left over.
            self.assertEqual(many, house.many)


class Tables(unittest.TestCase):
    def test_24_five_houses(self):
        self.assertEqual([kind_of(Even(4, 2)), kind_of(Even(5, 2)), kind_of(Even(5, 3)), kind_of(SEVEN)],
                         ["two of four", "two of five", "three of five", "seven"])
        self.assertEqual((kind_of(Other(SEVEN)), kind_of(Even(6, 3))), ("other seven", None))

    def assertLeft(self, house, answer, kinds):
        self.assertEqual(answer[0], "barred")
        self.assertEqual(answer[1] & answer[2], 0)
        self.assertIn(answer[3], kinds)
        self.assertEqual(kind_of(Minor(house, answer[1], answer[2])), answer[3])

    def test_25_over_2(self):
        for label, house in HOUSES:
            answer = over_two(house)
            if answer[0] == "table":
                self.assertEqual(ranks(Tabled(house.many, 2, answer[1])), ranks(house), label)
                self.assertEqual(len(answer[1]), whole_rank(house))
            else:
                self.assertLeft(house, answer, ["two of four"])

    def test_26_over_3(self):
        for label, house in HOUSES + [("seven", SEVEN), ("other seven", Other(SEVEN))]:
            answer = over_three(house)
            if answer[0] == "table":
                self.assertEqual(ranks(Tabled(house.many, 3, answer[1])), ranks(house), label)
                self.assertEqual(len(answer[1]), whole_rank(house))
            else:
                self.assertLeft(house, answer, ["two of five", "three of five", "seven", "other seven"])

    def test_27_over_all(self):
        for label, house in HOUSES + [("seven", SEVEN), ("other seven", Other(SEVEN))]:
            answer = over_all(house)
            if answer[0] == "table":
                whole = whole_rank(house)
                for s in choices(house.everything(), whole):
                    found = determinant([[row[k] for k in things(s)] for row in answer[1]])
                    self.assertIn(found, (1, -1) if house.rank(s) == whole else (0,), label)
            else:
                self.assertLeft(house, answer, ["two of four", "seven", "other seven"])

    def test_28_just_one_of_the_two(self):
        for label, house in HOUSES:
            two, three, every = over_two(house)[0], over_three(house)[0], over_all(house)[0]
            self.assertEqual(every == "table", two == "table" and three == "table", label)


class Polynomials(unittest.TestCase):
    def test_29_whichever_thing_is_taken(self):
        for label, house in HOUSES:
            for order in [list(range(house.many))[::-1], [k ^ 1 for k in range(house.many) if k ^ 1 < house.many]]:
                left = [k for k in range(house.many) if k not in order]
                self.assertEqual(polynomial(house, order + left), polynomial(house), label)

    def test_30_how_it_is_told(self):
        self.assertEqual(polynomial(House(0)), [(0, 0, 1)])
        self.assertEqual(polynomial(Even(4, 2)), [(0, 1, 2), (0, 2, 1), (1, 0, 2), (2, 0, 1)])

    def test_31_worth_and_counts(self):
        self.assertEqual((worth([], 1, 1), worth([(0, 0, 5), (0, 0, -2)], 0, 0)), (0, 3))
        for label, house in HOUSES:
            self.assertEqual(counts(house)[:2], (len(bases(house)), len(frees(house))), label)

    def test_32_colourings(self):
        self.assertEqual(colourings(Net(3, 3, [(0, 1), (1, 2), (2, 0)]), 3), 6)
        self.assertEqual(colourings(Net(1, 1, [(0, 0)]), 3), 0)
        self.assertEqual(colourings(Net(0, 0, []), 0), 1)


class Desks(unittest.TestCase):
    def test_33_a_desk_tells_what_the_houses_tell(self):
        for label, house in HOUSES:
            told = told_of(house)
            line = " ".join(["a = bases", str(house.many)] + [shown(base) for base in told["bases"]])
            desk = Desk()
            self.assertEqual(desk.say(line), "ok", label)
            for word in ["bases", "rings", "flats", "frees"]:
                self.assertEqual(desk.say(f"{word} a"), shown_all(told[word]) or "none", label)
            for word in ["two", "three", "all"]:
                self.assertEqual(desk.say(f"{word} a") == "yes", told[f"over_{word}"][0] == "table", label)
            self.assertEqual(desk.say("counts a"), " ".join(str(number) for number in told["counts"]))
            self.assertEqual(desk.say("worth a 3 -2"), str(told["worth"]))
            self.assertEqual(desk.say("common a a"), str(told["whole_rank"]))
            weights = "".join(f" {(k * 3) % 5 - 2}" for k in range(house.many))
            self.assertEqual(desk.say("heaviest a" + weights), shown(told["heaviest"]))
            self.assertEqual(desk.say(f"closed a {shown(0)}"), shown(told["closed"][0]))
            self.assertEqual(desk.say(f"rank a {shown(house.everything())}"), str(told["whole_rank"]))

    def test_33_every_line_that_makes_a_house(self):
        desk = Desk()
        told = [("a = even 3 1", "a b c"), ("b = bases 2 ab", "ab"), ("c = rings 2 ab", "a b"),
                ("d = flats 1 - a", "a"), ("e = net 3 01 12 20", "ab ac bc"),
                ("f = table 2 3 1 0 1 0 1 1", "ab ac bc"), ("g = other a", "ab ac bc"), ("h = out a a", "a b"),
                ("i = drawn a a", "-"), ("j = side a b", "ade bde cde")]
        for line, answer in told:
            self.assertEqual(desk.say(line), "ok")
            self.assertEqual(desk.say(f"bases {line[0]}"), answer)
        self.assertEqual((desk.say("same e f"), desk.say("same e a")), ("yes", "no"))

    def test_34_refusals(self):
        desk = Desk()
        self.assertEqual(desk.say("a = even 3 1"), "ok")
        for line, refusal in [("a = even 3 4", NoLine), ("bases  a", NoLine), ("rank x i", NoLine),
                              ("rank x h", NoName), ("rank a h", NoFit), ("a = bases 4 ab cd", NoHouse),
                              ("a = bases 3 ab d", NoLine)]:
            for asked in range(2):
                with self.assertRaises(HouseError) as taken:
                    desk.say(line)
                self.assertIs(type(taken.exception), refusal, line)
            self.assertEqual(desk.say("bases a"), "a b c")


if __name__ == "__main__":
    unittest.main()
