"""The text as it was told, and the world's one form."""

import itertools
import unittest

from tests.helper import MAKES, NORMAL, SHOWN, add, as_bytes, cut, last, lines, normal, page, run, shown, swap

WORLD = (
    "rex is in box.",
    "the age of every pet is usually 5.",
    "usually every pet is loud.",
    "box is a crate.",
    "rex is a dog.",
    "dog is a kind of pet.",
    "every dog is tame.",
    "rex is not old.",
    "pet is a kind.",
    "pet can be tame.",
    "pet can be loud.",
    "pet can be old.",
    "pet has a number weight.",
    "pet has a number age.",
    "pet has a number legs.",
    "dog can be fast.",
    "crate is a kind.",
    "the weight of rex is -30.",
)

WORLD_FORM = [
    "crate is a kind.",
    "dog is a kind of pet.",
    "dog can be fast.",
    "dog can be loud.",
    "dog can be old.",
    "dog can be tame.",
    "dog has a number age.",
    "dog has a number legs.",
    "dog has a number weight.",
    "pet is a kind.",
    "pet can be loud.",
    "pet can be old.",
    "pet can be tame.",
    "pet has a number age.",
    "pet has a number legs.",
    "pet has a number weight.",
    "box is a crate.",
    "rex is a dog.",
    "rex is not fast.",
    "rex is loud.",
    "rex is not old.",
    "rex is tame.",
    "the age of rex is 5.",
    "the legs of rex is 0.",
    "the weight of rex is -30.",
    "rex is in box.",
]

BASE = ("bee is a kind of cow.", "cow is a kind of doe.", "doe is a kind.", "doe can be big.", "doe has a number age.",
        "rex is a bee.")


def held(*told):
    """Whether rex is big, and his age, in a world of kinds under kinds."""
    found = normal(*BASE, *told)
    quality = [line for line in found if line in ("rex is big.", "rex is not big.")]
    number = [line for line in found if line.startswith("the age of rex is ")]
    assert len(quality) == 1 and len(number) == 1
    return quality[0] == "rex is big.", int(number[0][18:-1])


class Shown(unittest.TestCase):
    def test_nothing(self):
        self.assertEqual(run(SHOWN), [[0]])

    def test_as_it_was_told(self):
        self.assertEqual(shown(lines(*WORLD)), page(WORLD))
        self.assertEqual(last(lines("b is c."), SHOWN), [0, 98, 32, 105, 115, 32, 99, 46, 10])

    def test_a_text_that_makes_no_world(self):
        self.assertEqual(shown(lines("rex is in rex.", "rex is big.")), "rex is in rex.\nrex is big.\n")

    def test_after_changes(self):
        self.assertEqual(shown(add("dog is a kind."), add("rex is a dog."), add("cat is a kind."), swap(1, 3), cut(2)),
                         "cat is a kind.\ndog is a kind.\n")


class TheOneForm(unittest.TestCase):
    def test_the_empty_world(self):
        self.assertEqual(run(NORMAL), [[0]])

    def test_a_whole_world(self):
        self.assertEqual(normal(*WORLD), WORLD_FORM)
        self.assertEqual(last(lines(*WORLD), NORMAL), [0] + as_bytes(page(WORLD_FORM)))

    def test_asking_changes_nothing(self):
        found = run(lines(*WORLD), NORMAL, SHOWN, NORMAL)
        self.assertEqual(found[1], found[3])
        self.assertEqual(found[2], [0] + as_bytes(page(WORLD)))

    def test_whatever_order(self):
        for turn in range(len(WORLD)):
            turned = WORLD[turn:] + WORLD[:turn]
            self.assertEqual(normal(*turned), WORLD_FORM)
            self.assertEqual(normal(*reversed(turned)), WORLD_FORM)

    def test_lines_told_again(self):
        self.assertEqual(normal(*WORLD, *WORLD), WORLD_FORM)

    def test_a_kind_told_in_both_ways(self):
        self.assertEqual(normal("dog is a kind.", "pet is a kind.", "dog is a kind of pet.", "pet is a kind."),
                         ["dog is a kind of pet.", "pet is a kind."])

    def test_names_in_order(self):
        self.assertEqual(normal("dogs is a kind.", "do is a kind.", "doga is a kind.", "dog is a kind.", "z is a kind.",
                                "dp is a kind.", "b is a kind."),
                         ["b is a kind.", "do is a kind.", "dog is a kind.", "doga is a kind.", "dogs is a kind.",
                          "dp is a kind.", "z is a kind."])

    def test_things_qualities_and_numbers_in_order(self):
        self.assertEqual(normal("k is a kind.", "k can be bb.", "k can be b.", "k can be bab.", "k has a number mm.",
                                "k has a number m.", "k has a number mam.", "tt is a k.", "t is a k.", "tat is a k."),
                         ["k is a kind.", "k can be b.", "k can be bab.", "k can be bb.", "k has a number m.",
                          "k has a number mam.", "k has a number mm."] + [
                              line.format(thing) for thing in ("t", "tat", "tt")
                              for line in ("{} is a k.", "{} is not b.", "{} is not bab.", "{} is not bb.",
                                           "the m of {} is 0.", "the mam of {} is 0.", "the mm of {} is 0.")])

    def test_kinds_and_things_stay_apart_whatever_their_names(self):
        self.assertEqual(normal("z is a kind.", "b is a z."), ["z is a kind.", "b is a z."])
        self.assertEqual(normal("y is a z.", "z is a kind.", "c is a kind of z.", "d is a c."),
                         ["c is a kind of z.", "z is a kind.", "d is a c.", "y is a z."])

    def test_what_the_upper_kind_can_be_the_lower_can_be_but_not_the_other_way_round(self):
        self.assertEqual(normal("pet is a kind.", "dog is a kind of pet.", "dog can be big.", "pet can be old.",
                                "dog has a number age.", "pet has a number size.", "rex is a pet.", "dog can be old."),
                         ["dog is a kind of pet.", "dog can be big.", "dog can be old.", "dog has a number age.",
                          "dog has a number size.", "pet is a kind.", "pet can be old.", "pet has a number size.",
                          "rex is a pet.", "rex is not old.", "the size of rex is 0."])

    def test_things_in_things(self):
        self.assertEqual(normal("k is a kind.", "town is a k.", "hall is a k.", "box is a k.", "box is in hall.",
                                "hall is in town."),
                         ["k is a kind.", "box is a k.", "box is in hall.", "hall is a k.", "hall is in town.",
                          "town is a k."])


class WhatHolds(unittest.TestCase):
    def test_nothing_said(self):
        self.assertEqual(held(), (False, 0))

    def test_told(self):
        self.assertEqual(held("rex is big.", "the age of rex is 3."), (True, 3))
        self.assertEqual(held("rex is not big.", "the age of rex is -3."), (False, -3))
        self.assertEqual(held("the age of rex is 0.", "the age of every bee is usually 4."), (False, 0))

    def test_told_goes_ahead_of_usually(self):
        for kind in ("bee", "cow", "doe"):
            self.assertEqual(held("rex is not big.", f"usually every {kind} is big.", "the age of rex is 3.",
                                  f"the age of every {kind} is usually 4."), (False, 3))
            self.assertEqual(held("rex is big.", f"usually every {kind} is not big."), (True, 0))

    def test_every(self):
        for kind in ("bee", "cow", "doe"):
            self.assertEqual(held(f"every {kind} is big."), (True, 0))
            self.assertEqual(held(f"every {kind} is not big."), (False, 0))

    def test_every_goes_ahead_of_usually_even_from_farther_up(self):
        for far, near in itertools.product(("bee", "cow", "doe"), repeat=2):
            self.assertEqual(held(f"every {far} is big.", f"usually every {near} is not big."), (True, 0))
            self.assertEqual(held(f"every {far} is not big.", f"usually every {near} is big."), (False, 0))

    def test_usually(self):
        for kind in ("bee", "cow", "doe"):
            self.assertEqual(held(f"usually every {kind} is big.", f"the age of every {kind} is usually 9."), (True, 9))
            self.assertEqual(held(f"usually every {kind} is not big."), (False, 0))

    def test_the_nearest_kind_of_which_something_is_usually_said(self):
        for near, far in (("bee", "cow"), ("bee", "doe"), ("cow", "doe")):
            for told in itertools.permutations((f"usually every {near} is big.", f"usually every {far} is not big.",
                                                f"the age of every {near} is usually 1.",
                                                f"the age of every {far} is usually 2.")):
                self.assertEqual(held(*told), (True, 1))
            self.assertEqual(held(f"usually every {near} is not big.", f"usually every {far} is big.",
                                  f"the age of every {near} is usually 0.",
                                  f"the age of every {far} is usually -2."), (False, 0))

    def test_what_is_said_of_other_kinds_and_things_does_not_matter(self):
        self.assertEqual(held("elk is a kind of doe.", "every elk is big.", "tom is a bee.", "tom is big.",
                              "the age of tom is 6.", "the age of every elk is usually 7.", "fox is a kind of bee.",
                              "usually every fox is big.", "the age of every fox is usually 8."), (False, 0))
        self.assertEqual(held("doe can be old.", "doe has a number size.", "rex is old.", "every bee is old.",
                              "usually every bee is old.", "the size of rex is 5.",
                              "the size of every bee is usually 5."), (False, 0))

    def test_the_largest_and_the_least_number(self):
        self.assertEqual(held("the age of rex is 1000000000."), (False, 1000000000))
        self.assertEqual(held("the age of every doe is usually -1000000000."), (False, -1000000000))


class TheOneFormReadAgain(unittest.TestCase):
    def test_it_has_the_same_one_form(self):
        for told in ((), WORLD, BASE, BASE + ("usually every cow is big.", "the age of every bee is usually -7."),
                     ("dog is a kind.", "rex is a dog.", "box is a dog.", "rex is in box.")):
            form = normal(*told)
            self.assertLessEqual(len(form), 40)
            self.assertEqual(run(lines(*form), MAKES)[1], [0, 1])
            self.assertEqual(normal(*form), form)

    def test_more_than_forty_lines(self):
        names = ["q" + letter for letter in "bcdefghijk"]
        told = ["kb is a kind.", "kc is a kind of kb.", "kd is a kind of kc.", "ke is a kind of kd.", "t is a ke.",
                "u is a kb."]
        told += [f"kb can be {name}." for name in names]
        form = ["kb is a kind."] + [f"kb can be {name}." for name in names]
        for kind, upper in (("kc", "kb"), ("kd", "kc"), ("ke", "kd")):
            form += [f"{kind} is a kind of {upper}."] + [f"{kind} can be {name}." for name in names]
        form += ["t is a ke."] + [f"t is not {name}." for name in names]
        form += ["u is a kb."] + [f"u is not {name}." for name in names]
        self.assertEqual(len(form), 66)
        self.assertEqual(normal(*told), form)

    def test_as_many_lines_as_it_gets(self):
        chain = ["ka is a kind."] + [f"k{one} is a kind of k{two}." for one, two in zip("bcdefghijklm", "abcdefghijkl")]
        told = chain + [f"ka can be q{letter}." for letter in "abcdefghijklm"]
        told += [f"t{letter} is a km." for letter in "abcdefghijklmn"]
        self.assertEqual(len(told), 40)
        self.assertEqual(len(normal(*told)), 13 * 14 + 14 * 14)


class NoWorld(unittest.TestCase):
    def test_a_text_that_clashes(self):
        for told in (("dog is a kind of dog.",), ("dog is a kind.", "rex is a dog.", "rex is in rex."),
                     ("dog is a kind.", "dog can be big.", "rex is a dog.", "rex is big.", "every dog is not big.")):
            self.assertEqual(normal(*told), [-4])

    def test_a_text_with_an_unfounded_line(self):
        for told in (("rex is a dog.",), ("dog is a kind.", "rex is a dog.", "rex is big."),
                     ("dog is a kind of pet.",)):
            self.assertEqual(normal(*told), [-4])

    def test_a_text_with_both(self):
        self.assertEqual(normal("rex is in rex."), [-4])

    def test_the_refusal_stands_alone_and_changes_nothing(self):
        found = run(lines("rex is a dog."), NORMAL, SHOWN, add("dog is a kind."), NORMAL)
        self.assertEqual(found[1:4], [[-4], [0] + as_bytes("rex is a dog.\n"), [0, 2]])
        self.assertEqual(found[4], [0] + as_bytes("dog is a kind.\nrex is a dog.\n"))


if __name__ == "__main__":
    unittest.main()
