"""The call number: which number a thing has, how that is known, and the reasons."""

import itertools
import unittest

from tests.helper import add, cut, last, lines, number, run

# rex is a bee, over bee is cow, over cow is doe; the lines that are told behind these begin with number 6.
BASE = ("bee is a kind of cow.", "cow is a kind of doe.", "doe is a kind.", "doe has a number age.", "rex is a bee.")
KINDS = ("bee", "cow", "doe")
GROUND = [1, 2, 3, 4, 5]
NUMBERS = (0, 1, -1, 7, -30, 1000000000, -1000000000, 999999999, -999999999)


def age(*told):
    """The age of rex, how it is known, and the reasons, with these lines behind the base."""
    return last(lines(*BASE, *told), number("rex", "age"))


def rex(*told):
    """The same in a text of these lines alone."""
    return last(lines(*told), number("rex", "age"))


class How(unittest.TestCase):
    def test_told(self):
        for value in NUMBERS:
            self.assertEqual(age(f"the age of rex is {value}."), [0, value, 1] + GROUND + [6])

    def test_usually(self):
        for value in NUMBERS:
            for kind in KINDS:
                self.assertEqual(age(f"the age of every {kind} is usually {value}."), [0, value, 3] + GROUND + [6])

    def test_nothing_said(self):
        self.assertEqual(age(), [0, 0, 4] + GROUND)

    def test_told_goes_ahead_of_usually(self):
        for kind in KINDS:
            self.assertEqual(age(f"the age of every {kind} is usually 4.", "the age of rex is 0."),
                             [0, 0, 1] + GROUND + [7])
            self.assertEqual(age("the age of rex is -5.", f"the age of every {kind} is usually -5."),
                             [0, -5, 1] + GROUND + [6])

    def test_the_nearest_kind_of_which_something_is_said(self):
        for near, far in itertools.combinations(KINDS, 2):
            self.assertEqual(age(f"the age of every {far} is usually 4.", f"the age of every {near} is usually 0."),
                             [0, 0, 3] + GROUND + [7])
            self.assertEqual(age(f"the age of every {near} is usually -4.", f"the age of every {far} is usually 9."),
                             [0, -4, 3] + GROUND + [6])
        self.assertEqual(age(*[f"the age of every {kind} is usually {len(kind)}." for kind in reversed(KINDS)]),
                         [0, 3, 3] + GROUND + [8])

    def test_what_is_said_of_others_does_not_matter(self):
        self.assertEqual(age("doe has a number size.", "the size of rex is 3.", "the size of every bee is usually 4.",
                             "tom is a bee.", "the age of tom is 5.", "elk is a kind of bee.",
                             "the age of every elk is usually 6.", "fox is a kind of cow.",
                             "the age of every fox is usually 7."), [0, 0, 4] + GROUND)


class Reasons(unittest.TestCase):
    def test_the_first_line_that_says_it(self):
        for said, how in (("the age of rex is 8.", 1), ("the age of every cow is usually 8.", 3)):
            self.assertEqual(age(said, said), [0, 8, how] + GROUND + [6])
            self.assertEqual(age("tom is a bee.", said, "elk is a kind.", said), [0, 8, how] + GROUND + [7])

    def test_the_first_of_the_other_lines(self):
        self.assertEqual(age(*BASE, "bee is a kind.", "cow is a kind."), [0, 0, 4] + GROUND)
        self.assertEqual(rex("cow is a kind.", "bee is a kind.", *BASE, "doe is a kind."), [0, 0, 4, 3, 4, 5, 6, 7])

    def test_by_rising_numbers_wherever_the_lines_stand(self):
        for ordered in itertools.permutations(BASE + ("the age of every cow is usually 3.",)):
            self.assertEqual(rex(*ordered), [0, 3, 3, 1, 2, 3, 4, 5, 6])

    def test_of_a_thing_whose_kind_has_none_over_it(self):
        ground = ("bee is a kind.", "bee has a number age.", "bee is a kind.", "rex is a bee.")
        self.assertEqual(rex(*ground), [0, 0, 4, 1, 2, 4])
        self.assertEqual(rex(*ground, "the age of rex is -1."), [0, -1, 1, 1, 2, 4, 5])
        self.assertEqual(rex(*ground, "the age of every bee is usually -1."), [0, -1, 3, 1, 2, 4, 5])

    def where(self, letting, said):
        """Of which kinds' lines of form 4 one is among the reasons, and how it is known."""
        told = ["bee is a kind of cow.", "cow is a kind of doe.", "doe is a kind of elk.", "elk is a kind.",
                "rex is a bee."]
        told += [f"{kind} has a number age." for kind in letting] + list(said)
        found = rex(*told)
        self.assertEqual(found[3:8], [1, 2, 3, 4, 5])
        return found[2], [letting[line - 6] for line in found[8:] if line - 6 < len(letting)]

    def test_form_4_under_at_and_over_the_kind_that_the_line_speaks_of(self):
        said = ["the age of every cow is usually 2."]
        self.assertEqual(self.where(["bee", "cow", "doe", "elk"], said), (3, ["cow"]))
        self.assertEqual(self.where(["elk", "doe", "cow", "bee"], said), (3, ["cow"]))
        self.assertEqual(self.where(["bee", "doe", "elk"], said), (3, ["doe"]))
        self.assertEqual(self.where(["bee", "elk"], said), (3, ["elk"]))
        self.assertEqual(self.where(["elk"], said), (3, ["elk"]))

    def test_form_4_from_the_kind_of_the_thing_where_no_line_speaks_of_a_kind(self):
        for said, how in ((["the age of rex is 2."], 1), ([], 4)):
            self.assertEqual(self.where(["bee", "cow", "doe", "elk"], said), (how, ["bee"]))
            self.assertEqual(self.where(["elk", "doe", "cow"], said), (how, ["cow"]))
            self.assertEqual(self.where(["elk"], said), (how, ["elk"]))

    def test_the_first_of_several_lines_of_form_4_about_one_kind(self):
        self.assertEqual(age("doe has a number age.", "the age of every doe is usually 1."), [0, 1, 3] + GROUND + [7])


class Refused(unittest.TestCase):
    def test_no_such_thing(self):
        for name in ("tom", "bee", "doe", "age"):
            self.assertEqual(last(lines(*BASE), number(name, "age")), [-5])

    def test_its_kind_does_not_have_that_number(self):
        told = BASE + ("cow can be big.", "elk is a kind of bee.", "elk has a number size.", "fox is a kind of doe.",
                       "fox has a number legs.", "gnu is a kind.", "gnu has a number horns.")
        for name in ("big", "size", "legs", "horns", "rex", "bee", "nothing", "ag", "ages"):
            self.assertEqual(last(lines(*told), number("rex", name)), [-6], name)
        self.assertEqual(last(lines(*told), number("rex", "age"))[:3], [0, 0, 4])

    def test_no_world(self):
        self.assertEqual(age("the age of rex is 1.", "the age of rex is 2."), [-4])
        self.assertEqual(age("the size of rex is 1."), [-4])

    def test_of_the_text_as_it_is_now(self):
        found = run(lines(*BASE), add("the age of rex is -9."), number("rex", "age"), cut(6), number("rex", "age"), cut(4),
                    number("rex", "age"))
        self.assertEqual([found[k] for k in (2, 4, 6)], [[0, -9, 1] + GROUND + [6], [0, 0, 4] + GROUND, [-6]])


if __name__ == "__main__":
    unittest.main()
