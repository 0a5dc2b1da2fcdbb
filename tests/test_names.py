import itertools
import unittest

from basehouse.errors import NoSet
from basehouse.names import read, read_all, shown, shown_all

EVERYTHING = 255
SIGNS = [chr(code) for code in range(ord(" "), ord("~") + 1) if chr(code) != "%"]


def written():
    """Every set's text, by combinations of letters, as a dict to its set."""
    found = {"-": 0}
    for k in range(1, 9):
        for letters in itertools.combinations("abcdefgh", k):
            found["".join(letters)] = sum(2 ** "abcdefgh".index(letter) for letter in letters)
    return found


WRITTEN = written()


class OneSet(unittest.TestCase):
    def test_shown_by_hand(self):
        self.assertEqual(shown(0), "-")
        self.assertEqual(shown(1), "a")
        self.assertEqual(shown(128), "h")
        self.assertEqual(shown(0b10110), "bce")
        self.assertEqual(shown(EVERYTHING), "abcdefgh")

    def test_read_by_hand(self):
        self.assertEqual(read("-"), 0)
        self.assertEqual(read("a"), 1)
        self.assertEqual(read("h"), 128)
        self.assertEqual(read("bce"), 0b10110)
        self.assertEqual(read("abcdefgh"), EVERYTHING)

    def test_every_set_is_shown_and_read(self):
        self.assertEqual(len(WRITTEN), 256)
        for text, s in WRITTEN.items():
            self.assertEqual(shown(s), text)
            self.assertEqual(read(text), s)

    def test_kinds(self):
        for s in [0, 1, 6, EVERYTHING]:
            self.assertIs(type(shown(s)), str)
            self.assertIs(type(read(shown(s))), int)

    def assertRefused(self, text):
        with self.assertRaises(NoSet, msg=repr(text)):
            read(text)

    def test_wrong_texts(self):
        wrong = [
            "",
            "ba", "acb", "hgfedcba",
            "aa", "abb", "aab", "aba", "abcdefghh",
            "i", "ai", "abcdefghi", "z",
            "A", "AB", "aB", "H",
            "0", "1", "a1", "_", "+", "a,b", "{}", "`", "~",
            "--", "-a", "a-", "a-b", "---",
            " ", "  ", " a", "a ", "a b", "- ", " -",
        ]
        for text in wrong:
            self.assertRefused(text)

    def test_every_single_sign(self):
        for sign in SIGNS:
            if sign in "abcdefgh-":
                self.assertEqual(shown(read(sign)), sign)
            else:
                self.assertRefused(sign)

    def test_a_wrong_sign_beside_right_letters(self):
        for sign in SIGNS:
            for text in [sign + "bd", "b" + sign + "d", "bd" + sign]:
                if text in WRITTEN:
                    self.assertEqual(read(text), WRITTEN[text])
                else:
                    self.assertRefused(text)

    def test_all_short_texts(self):
        for length in range(5):
            for signs in itertools.product("abhi-A ", repeat=length):
                text = "".join(signs)
                if text in WRITTEN:
                    self.assertEqual(read(text), WRITTEN[text])
                else:
                    self.assertRefused(text)

    def test_long_wrong_texts(self):
        for text in ["a" * 4000, "-" * 4000, " " * 4000, "abcdefgh" * 500]:
            self.assertRefused(text)


class SeveralSets(unittest.TestCase):
    def test_shown_all_by_hand(self):
        self.assertEqual(shown_all([]), "")
        self.assertEqual(shown_all([0]), "-")
        self.assertEqual(shown_all([3]), "ab")
        self.assertEqual(shown_all([3, 0, 128, 5]), "ab - h ac")
        self.assertEqual(shown_all([0, 0]), "- -")

    def test_read_all_by_hand(self):
        self.assertEqual(read_all(""), [])
        self.assertEqual(read_all("-"), [0])
        self.assertEqual(read_all("ab"), [3])
        self.assertEqual(read_all("ab - h ac"), [3, 0, 128, 5])
        self.assertEqual(read_all("- -"), [0, 0])

    def test_lists_in_any_order_lead_back(self):
        lists = [
            [], [0], [EVERYTHING], [5, 5, 5], [128, 1, 0],
            list(range(256)), list(range(255, -1, -1)), [EVERYTHING] * 444,
        ]
        for sets in lists:
            text = shown_all(sets)
            self.assertEqual(text, " ".join(shown(s) for s in sets))
            self.assertEqual(read_all(text), sets)

    def test_kinds(self):
        for sets in [[], [0], [3, 0, 5]]:
            self.assertIs(type(shown_all(sets)), str)
            self.assertIs(type(read_all(shown_all(sets))), list)
            for s in read_all(shown_all(sets)):
                self.assertIs(type(s), int)

    def assertRefused(self, text):
        with self.assertRaises(NoSet, msg=repr(text)):
            read_all(text)

    def test_wrong_blanks(self):
        wrong = [
            " ", "  ", "   ", " " * 4000,
            " a", "a ", " - ", " a b", "a b ", "  a", "a  ",
            "a  b", "a   b", "-  -", "a b  c", "a  b c",
        ]
        for text in wrong:
            self.assertRefused(text)

    def test_wrong_words(self):
        wrong = [
            "ba", "aa", "i", "A", "--", "-a", "a-", "1",
            "ab ba", "ba ab", "a bb c", "a i", "i a", "a B", "- --", "a -b", "a- b",
            "a,b", "a, b", "a_b", "a;b", "a 1 b",
        ]
        for text in wrong:
            self.assertRefused(text)

    def test_all_short_texts(self):
        right = {""}
        for many in range(1, 4):
            for words in itertools.product(["-", "a", "b", "h", "ab", "ah", "bh", "abh"], repeat=many):
                right.add(" ".join(words))
        for length in range(6):
            for signs in itertools.product("abh- i", repeat=length):
                text = "".join(signs)
                if text in right:
                    self.assertEqual(read_all(text), [WRITTEN[word] for word in text.split()])
                else:
                    self.assertRefused(text)


class ListsStayTheirOwners(unittest.TestCase):
    def test_a_list_handed_in_stays_as_it_was(self):
        sets = [5, 0, 5, 255]
        shown_all(sets)
        self.assertEqual(sets, [5, 0, 5, 255])

    def test_a_told_list_that_is_changed_changes_no_later_answer(self):
        for text, sets in [("", []), ("-", [0]), ("a bc", [1, 6])]:
            first = read_all(text)
            first.append(99)
            self.assertEqual(read_all(text), sets)
            self.assertEqual(first, sets + [99])

    def test_a_refusal_leaves_no_trace(self):
        with self.assertRaises(NoSet):
            read_all("a b ba")
        self.assertEqual(read_all("a b"), [1, 2])
        self.assertEqual(read_all(""), [])


if __name__ == "__main__":
    unittest.main()
