import unittest

from basehouse import errors
from basehouse.errors import HouseError, NoFit, NoHouse, NoLine, NoName, NoSet

REFUSALS = [NoSet, NoHouse, NoLine, NoName, NoFit]


class Errors(unittest.TestCase):
    def test_all_stand_under_value_error(self):
        self.assertEqual(HouseError.__bases__, (ValueError,))

    def test_each_stands_straight_under_house_error(self):
        for refusal in REFUSALS:
            self.assertEqual(refusal.__bases__, (HouseError,))

    def test_names(self):
        names = [refusal.__name__ for refusal in REFUSALS]
        self.assertEqual(names, ["NoSet", "NoHouse", "NoLine", "NoName", "NoFit"])
        for name, refusal in zip(names, REFUSALS):
            self.assertIs(getattr(errors, name), refusal)

    def test_none_stands_under_another(self):
        for one in REFUSALS:
            for other in REFUSALS:
                self.assertEqual(issubclass(one, other), one is other)

    def test_plain_refusals_are_raised_and_taken_by_name(self):
        for refusal in [HouseError, NoSet, NoLine, NoName, NoFit]:
            with self.assertRaises(refusal):
                raise refusal("some words")

    def test_no_house_has_its_three_fields(self):
        for one, other, thing in [(0, 0, -1), (3, 12, 2), (255, 254, 7)]:
            with self.assertRaises(NoHouse) as taken:
                raise NoHouse(one, other, thing)
            e = taken.exception
            self.assertEqual((e.one, e.other, e.thing), (one, other, thing))

    def test_no_house_needs_all_three(self):
        with self.assertRaises(TypeError):
            NoHouse(1, 2)


if __name__ == "__main__":
    unittest.main()
