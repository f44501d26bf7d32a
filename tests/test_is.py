"""The call is: whether a thing has a quality, how that is known, and the reasons."""

import itertools
import unittest

from tests.helper import add, cut, is_so, last, lines, run, swap

# rex is a bee, over bee is cow, over cow is doe; the lines that are told behind these begin with number 6.
BASE = ("bee is a kind of cow.", "cow is a kind of doe.", "doe is a kind.", "doe can be big.", "rex is a bee.")
KINDS = ("bee", "cow", "doe")
GROUND = [1, 2, 3, 4, 5]


def big(*told):
    """Whether rex is big, how, and the reasons, with these lines behind the base."""
    return last(lines(*BASE, *told), is_so("rex", "big"))


def rex(*told):
    """The same in a text of these lines alone."""
    return last(lines(*told), is_so("rex", "big"))


class How(unittest.TestCase):
    def test_told(self):
        self.assertEqual(big("rex is big."), [0, 1, 1] + GROUND + [6])
        self.assertEqual(big("rex is not big."), [0, 0, 1] + GROUND + [6])

    def test_every(self):
        for kind in KINDS:
            self.assertEqual(big(f"every {kind} is big."), [0, 1, 2] + GROUND + [6])
            self.assertEqual(big(f"every {kind} is not big."), [0, 0, 2] + GROUND + [6])

    def test_usually(self):
        for kind in KINDS:
            self.assertEqual(big(f"usually every {kind} is big."), [0, 1, 3] + GROUND + [6])
            self.assertEqual(big(f"usually every {kind} is not big."), [0, 0, 3] + GROUND + [6])

    def test_nothing_said(self):
        self.assertEqual(big(), [0, 0, 4] + GROUND)

    def test_told_goes_ahead_of_all(self):
        for kind in KINDS:
            self.assertEqual(big(f"every {kind} is big.", "rex is big."), [0, 1, 1] + GROUND + [7])
            self.assertEqual(big(f"usually every {kind} is big.", "rex is not big."), [0, 0, 1] + GROUND + [7])
            self.assertEqual(big("rex is big.", f"usually every {kind} is not big."), [0, 1, 1] + GROUND + [6])

    def test_every_goes_ahead_of_usually_whichever_kind_is_nearer(self):
        for one, two in itertools.product(KINDS, repeat=2):
            self.assertEqual(big(f"usually every {one} is not big.", f"every {two} is big."), [0, 1, 2] + GROUND + [7])
            self.assertEqual(big(f"every {two} is not big.", f"usually every {one} is big."), [0, 0, 2] + GROUND + [6])

    def test_the_nearest_kind_of_which_something_is_said_of_every_one(self):
        for near, far in itertools.combinations(KINDS, 2):
            self.assertEqual(big(f"every {far} is big.", f"every {near} is big."), [0, 1, 2] + GROUND + [7])
            self.assertEqual(big(f"every {near} is not big.", f"every {far} is not big."), [0, 0, 2] + GROUND + [6])
        self.assertEqual(big(*[f"every {kind} is big." for kind in reversed(KINDS)]), [0, 1, 2] + GROUND + [8])

    def test_the_nearest_kind_of_which_something_is_usually_said(self):
        for near, far in itertools.combinations(KINDS, 2):
            self.assertEqual(big(f"usually every {far} is big.", f"usually every {near} is not big."),
                             [0, 0, 3] + GROUND + [7])
            self.assertEqual(big(f"usually every {near} is big.", f"usually every {far} is not big."),
                             [0, 1, 3] + GROUND + [6])
        self.assertEqual(big("usually every doe is big.", "usually every cow is not big.", "usually every bee is big."),
                         [0, 1, 3] + GROUND + [8])

    def test_what_is_said_of_others_does_not_matter(self):
        self.assertEqual(big("doe can be old.", "rex is old.", "every bee is old.", "usually every cow is old."),
                         [0, 0, 4] + GROUND)
        self.assertEqual(big("tom is a bee.", "tom is big.", "elk is a kind of bee.", "every elk is big.",
                             "fox is a kind of cow.", "usually every fox is big.", "every fox is big."),
                         [0, 0, 4] + GROUND)


class TheFirstLine(unittest.TestCase):
    def test_that_says_it(self):
        for said, how in (("rex is big.", 1), ("every cow is big.", 2), ("usually every cow is big.", 3)):
            self.assertEqual(big(said, said), [0, 1, how] + GROUND + [6])
            self.assertEqual(big("tom is a bee.", said, "elk is a kind.", said), [0, 1, how] + GROUND + [7])

    def test_of_the_others(self):
        self.assertEqual(big(*BASE), [0, 0, 4] + GROUND)
        self.assertEqual(rex("doe can be big.", "rex is a bee.", "doe is a kind.", "bee is a kind of cow.",
                             "cow is a kind of doe.", *BASE), [0, 0, 4] + GROUND)

    def test_of_form_1_where_the_last_kind_has_several(self):
        self.assertEqual(rex("bee can be big.", "rex is a bee.", "bee is a kind.", "bee is a kind."), [0, 0, 4, 1, 2, 3])
        self.assertEqual(big("doe is a kind.", "doe is a kind."), [0, 0, 4] + GROUND)

    def test_form_1_does_not_matter_where_there_is_form_2(self):
        for said in ((), ("rex is big.",), ("every cow is big.",), ("usually every bee is big.",)):
            found = big(*said)
            self.assertEqual(big(*said, "bee is a kind.", "cow is a kind."), found)
            self.assertEqual(last(lines("cow is a kind.", "bee is a kind.", *BASE, *said), is_so("rex", "big")),
                             found[:3] + [number + 2 for number in found[3:]])


class Reasons(unittest.TestCase):
    def test_by_rising_numbers_wherever_the_lines_stand(self):
        told = BASE + ("every cow is not big.",)
        for ordered in itertools.permutations(told):
            self.assertEqual(rex(*ordered), [0, 0, 2, 1, 2, 3, 4, 5, 6])

    def test_no_others_stand_among_them(self):
        self.assertEqual(rex("tom is a bee.", "rex is a bee.", "elk is a kind.", "bee is a kind of cow.", "tom is big.",
                             "usually every cow is big.", "cow can be big.", "elk can be big.", "cow is a kind.",
                             "rex is in tom."), [0, 1, 3, 2, 4, 6, 7, 9])

    def test_of_a_thing_whose_kind_has_none_over_it(self):
        ground = ("bee is a kind.", "bee can be big.", "rex is a bee.")
        self.assertEqual(rex(*ground), [0, 0, 4, 1, 2, 3])
        self.assertEqual(rex(*ground, "rex is big."), [0, 1, 1, 1, 2, 3, 4])
        self.assertEqual(rex(*ground, "every bee is big."), [0, 1, 2, 1, 2, 3, 4])
        self.assertEqual(rex(*ground, "usually every bee is big."), [0, 1, 3, 1, 2, 3, 4])

    def test_all_steps_up_even_above_the_kind_that_can_be_it(self):
        self.assertEqual(rex("doe is a kind.", "cow is a kind of doe.", "bee is a kind of cow.", "bee can be big.",
                             "rex is a bee.", "every bee is big."), [0, 1, 2, 1, 2, 3, 4, 5, 6])

    # Where form 3 is told of the kinds of a world, and which of its lines is a reason: the nearest to the saying one.
    def where(self, letting, said):
        """Of which kinds' lines of form 3 one is among the reasons, and how it is known."""
        told = ["bee is a kind of cow.", "cow is a kind of doe.", "doe is a kind of elk.", "elk is a kind.",
                "rex is a bee."]
        told += [f"{kind} can be big." for kind in letting] + list(said)
        found = rex(*told)
        self.assertEqual(found[3:8], [1, 2, 3, 4, 5])
        self.assertEqual(found[:1], [0])
        return found[2], [letting[number - 6] for number in found[8:] if number - 6 < len(letting)]

    def test_form_3_under_at_and_over_the_kind_that_the_line_speaks_of(self):
        for saying, how in (("every cow is big.", 2), ("usually every cow is not big.", 3)):
            self.assertEqual(self.where(["bee", "cow", "doe", "elk"], [saying]), (how, ["cow"]))
            self.assertEqual(self.where(["elk", "doe", "cow", "bee"], [saying]), (how, ["cow"]))
            self.assertEqual(self.where(["bee", "doe", "elk"], [saying]), (how, ["doe"]))
            self.assertEqual(self.where(["elk", "doe", "bee"], [saying]), (how, ["doe"]))
            self.assertEqual(self.where(["bee", "elk"], [saying]), (how, ["elk"]))
            self.assertEqual(self.where(["cow"], [saying]), (how, ["cow"]))
            self.assertEqual(self.where(["elk"], [saying]), (how, ["elk"]))

    def test_form_3_from_the_kind_of_the_thing_where_no_line_speaks_of_a_kind(self):
        for said, how in ((["rex is big."], 1), ([], 4)):
            self.assertEqual(self.where(["bee", "cow", "doe", "elk"], said), (how, ["bee"]))
            self.assertEqual(self.where(["elk", "doe", "cow", "bee"], said), (how, ["bee"]))
            self.assertEqual(self.where(["elk", "cow"], said), (how, ["cow"]))
            self.assertEqual(self.where(["elk"], said), (how, ["elk"]))

    def test_the_first_of_several_lines_of_form_3_about_one_kind(self):
        self.assertEqual(big("doe can be big.", "doe can be big.", "every doe is big."), [0, 1, 2] + GROUND + [8])
        self.assertEqual(rex("cow can be big.", "bee can be big.", "bee can be big.", "cow can be big.",
                             "usually every cow is big.", "rex is a bee.", "bee is a kind of cow.", "cow is a kind."),
                         [0, 1, 3, 1, 5, 6, 7, 8])


class Refused(unittest.TestCase):
    def test_no_such_thing(self):
        for name in ("tom", "bee", "doe", "big", "re", "rexx"):
            self.assertEqual(last(lines(*BASE), is_so(name, "big")), [-5])

    def test_its_kind_cannot_be_that(self):
        told = BASE + ("cow has a number age.", "elk is a kind of bee.", "elk can be old.", "fox is a kind of doe.",
                       "fox can be red.", "gnu is a kind.", "gnu can be wet.")
        for quality in ("age", "old", "red", "wet", "rex", "bee", "nothing", "bi", "bigg"):
            self.assertEqual(last(lines(*told), is_so("rex", quality)), [-6], quality)
        self.assertEqual(last(lines(*told), is_so("rex", "big"))[:3], [0, 0, 4])

    def test_no_world(self):
        self.assertEqual(big("rex is big.", "rex is not big."), [-4])
        self.assertEqual(big("tom is a cat."), [-4])
        self.assertEqual(big("rex is big.", "every doe is not big."), [-4])

    def test_of_the_text_as_it_is_now(self):
        found = run(lines(*BASE), add("every doe is big."), is_so("rex", "big"), swap(1, 6), is_so("rex", "big"), cut(1),
                    is_so("rex", "big"), cut(3), is_so("rex", "big"))
        self.assertEqual([found[k] for k in (2, 4, 6, 8)],
                         [[0, 1, 2, 1, 2, 3, 4, 5, 6], [0, 1, 2, 1, 2, 3, 4, 5, 6], [0, 0, 4, 1, 2, 3, 4, 5], [-6]])


class ALongWayUp(unittest.TestCase):
    def test_thirty_seven_kinds(self):
        kinds = ["k" + letter + other for letter in "bcdf" for other in "bcdfghjklm"][:37]
        told = [f"{one} is a kind of {two}." for one, two in zip(kinds, kinds[1:])] + [f"{kinds[-1]} is a kind."]
        told += [f"{kinds[-1]} can be big.", f"rex is a {kinds[0]}.", f"every {kinds[-1]} is big."]
        self.assertEqual(len(told), 40)
        self.assertEqual(rex(*told), [0, 1, 2] + list(range(1, 41)))
        self.assertEqual(rex(*told[::-1]), [0, 1, 2] + list(range(1, 41)))


if __name__ == "__main__":
    unittest.main()
