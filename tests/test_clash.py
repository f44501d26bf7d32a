"""Clashes: each way, which of several is told, and the lines that are told."""

import itertools
import unittest

from tests.helper import CLASH, add, clash, cut, run, swap

NONE = [0]

# A text and its clash, a few for each way; the last line is the one that clashes.
WAYS = (
    (("dog is a kind of dog.",), [3, 1]),
    (("rex is in rex.",), [10, 1]),
    (("dog can be dog.",), [1, 1]),
    (("dog is a kind.", "dog is a dog."), [1, 2]),
    (("dog is a kind.", "dog is a rex."), [1, 1, 2]),
    (("dog is a kind of pet.", "cat is a kind of pet.", "dog is a kind of cat."), [2, 1, 3]),
    (("dog is a kind of pet.", "pet is a kind of dog."), [3, 1, 2]),
    (("pet is a kind of life.", "dog is a kind of pet.", "life is a kind of dog."), [3, 1, 2, 3]),
    (("rex is a dog.", "tom is a cat.", "rex is a cat."), [4, 1, 3]),
    (("rex is big.", "rex is not big."), [5, 1, 2]),
    (("tom is big.", "rex is not big.", "rex is big."), [5, 2, 3]),
    (("every dog is big.", "every dog is not big."), [6, 1, 2]),
    (("every cat is big.", "every dog is not big.", "every dog is big."), [6, 2, 3]),
    (("rex is a dog.", "rex is big.", "every dog is not big."), [7, 1, 2, 3]),
    (("the age of rex is 7.", "the age of rex is 8."), [8, 1, 2]),
    (("the age of tom is 8.", "the size of rex is 8.", "the age of rex is 7.", "the age of rex is -7."), [8, 3, 4]),
    (("rex is in box.", "tom is in bag.", "rex is in bag."), [9, 1, 3]),
    (("rex is in box.", "box is in rex."), [10, 1, 2]),
    (("box is in bag.", "rex is in box.", "bag is in rex."), [10, 1, 2, 3]),
    (("usually every dog is big.", "usually every dog is not big."), [11, 1, 2]),
    (("usually every dog is not big.", "usually every cat is big.", "usually every dog is big."), [11, 1, 3]),
    (("the age of every dog is usually 7.", "the age of every dog is usually 0."), [12, 1, 2]),
    (("the age of every cat is usually 0.", "the age of every dog is usually 7.",
      "the age of every dog is usually 0."), [12, 2, 3]),
)

# Every way of being torn, with a chain of kinds: rex is a bee, over bee is cow, over cow is doe.
TORN = (
    (("rex is a bee.", "rex is big.", "every bee is not big."), [7, 1, 2, 3]),
    (("rex is a bee.", "rex is not big.", "every bee is big."), [7, 1, 2, 3]),
    (("rex is a bee.", "every bee is big.", "rex is not big."), [7, 1, 2, 3]),
    (("every bee is not big.", "rex is big.", "rex is a bee."), [7, 1, 2, 3]),
    (("rex is a bee.", "bee is a kind of cow.", "rex is big.", "every cow is not big."), [7, 1, 2, 3, 4]),
    (("bee is a kind of cow.", "every cow is not big.", "rex is a bee.", "rex is big."), [7, 1, 2, 3, 4]),
    (("bee is a kind of cow.", "every cow is not big.", "rex is big.", "rex is a bee."), [7, 1, 2, 3, 4]),
    (("every cow is not big.", "rex is big.", "rex is a bee.", "bee is a kind of cow."), [7, 1, 2, 3, 4]),
    (("rex is a bee.", "bee is a kind of cow.", "every bee is big.", "every cow is not big."), [7, 1, 2, 3, 4]),
    (("rex is a bee.", "bee is a kind of cow.", "every cow is big.", "every bee is not big."), [7, 1, 2, 3, 4]),
    (("every bee is big.", "every cow is not big.", "bee is a kind of cow.", "rex is a bee."), [7, 1, 2, 3, 4]),
    (("every bee is big.", "every cow is not big.", "rex is a bee.", "bee is a kind of cow."), [7, 1, 2, 3, 4]),
    (("cow is a kind of doe.", "every doe is big.", "every bee is not big.", "rex is a bee.",
      "bee is a kind of cow."), [7, 1, 2, 3, 4, 5]),
    (("bee is a kind of cow.", "every doe is big.", "every cow is not big.", "rex is a bee.",
      "cow is a kind of doe."), [7, 1, 2, 3, 4, 5]),
    (("bee is a kind of cow.", "cow is a kind of doe.", "rex is a bee.", "every doe is not big.",
      "rex is big."), [7, 1, 2, 3, 4, 5]),
    (("bee is a kind of cow.", "cow is a kind of doe.", "rex is a bee.", "every cow is not big.",
      "rex is big."), [7, 1, 3, 4, 5]),
)


class NoClash(unittest.TestCase):
    def test_the_empty_text(self):
        self.assertEqual(clash(), NONE)
        self.assertEqual(run(CLASH), [[0, 0]])

    def test_every_form_by_itself_and_again(self):
        for line in ("dog is a kind.", "dog is a kind of pet.", "dog can be big.", "dog has a number age.",
                     "rex is a dog.", "rex is big.", "rex is not big.", "every dog is big.", "every dog is not big.",
                     "usually every dog is big.", "usually every dog is not big.", "the age of rex is 7.",
                     "the age of every dog is usually 12.", "rex is in box."):
            self.assertEqual(clash(line), NONE)
            self.assertEqual(clash(line, line, line), NONE)

    def test_a_kind_under_a_kind_told_twice(self):
        self.assertEqual(clash("dog is a kind.", "dog is a kind of pet.", "dog is a kind.", "dog is a kind of pet."), NONE)

    def test_what_is_usual_contradicts_nothing_definite(self):
        self.assertEqual(clash("rex is a dog.", "rex is big.", "every dog is big.", "usually every dog is not big.",
                               "dog is a kind of pet.", "usually every pet is big."), NONE)
        self.assertEqual(clash("rex is a dog.", "the age of rex is 7.", "the age of every dog is usually 8.",
                               "dog is a kind of pet.", "the age of every pet is usually 9."), NONE)

    def test_kinds_that_contradict_without_a_thing(self):
        self.assertEqual(clash("dog is a kind of pet.", "every dog is big.", "every pet is not big."), NONE)

    def test_a_thing_of_the_upper_kind_is_not_torn(self):
        self.assertEqual(clash("dog is a kind of pet.", "every dog is big.", "every pet is not big.", "rex is a pet.",
                               "rex is not big."), NONE)

    def test_a_thing_without_a_kind_is_not_torn(self):
        self.assertEqual(clash("rex is big.", "every dog is not big."), NONE)

    def test_another_quality_thing_or_number(self):
        self.assertEqual(clash("rex is a dog.", "rex is big.", "every dog is not old.", "tom is not big.",
                               "the age of rex is 7.", "the age of tom is 8.", "the size of rex is 9."), NONE)

    def test_two_in_one_and_two_under_one(self):
        self.assertEqual(clash("rex is in box.", "tom is in box.", "dog is a kind of pet.", "cat is a kind of pet.",
                               "ann is a dog.", "eve is a dog."), NONE)


class EachWay(unittest.TestCase):
    def test_each_way(self):
        for told, found in WAYS:
            self.assertEqual(clash(*told), found, told)

    def test_lines_ahead_do_not_clash(self):
        for told, found in WAYS + TORN:
            self.assertEqual(clash(*told[:-1]), NONE, told)

    def test_other_lines_between_move_the_numbers_alone(self):
        for told, found in WAYS + TORN:
            spread = []
            for number, line in enumerate(told):
                spread.extend(["x" + "y" * number + " is a kind of zz.", line])
            self.assertEqual(clash(*spread), [found[0]] + [2 * number for number in found[1:]], spread)

    def test_lines_behind_change_nothing(self):
        for told, found in WAYS + TORN:
            self.assertEqual(clash(*told, "dog is in dog.", "big is a kind."), found)

    def test_by_calls_that_change_the_text(self):
        found = run(add("rex is big."), CLASH, add("tom is a dog."), add("rex is not big."), CLASH, swap(1, 3), CLASH,
                    swap(1, 2), CLASH, cut(2), CLASH)
        self.assertEqual([found[k] for k in (1, 4, 6, 8, 10)], [[0, 0], [0, 5, 1, 3], [0, 5, 1, 3], [0, 5, 2, 3], [0, 0]])


class ByItself(unittest.TestCase):
    def test_two_parts_in_one_line(self):
        for line in ("dog can be dog.", "dog has a number dog.", "dog is a dog.", "dog is dog.", "dog is not dog.",
                     "every dog is dog.", "every dog is not dog.", "usually every dog is dog.",
                     "usually every dog is not dog.", "the dog of dog is 1.", "the dog of every dog is usually 1."):
            self.assertEqual(clash(line), [1, 1], line)
            self.assertEqual(clash("pet is a kind.", line, line), [1, 2], line)

    def test_over_itself_and_in_itself(self):
        self.assertEqual(clash("pet is a kind.", "pet is a kind of pet."), [3, 2])
        self.assertEqual(clash("rex is a pet.", "rex is in rex."), [10, 2])

    def test_first_of_all_ways(self):
        # Each last line also clashes with an earlier one.
        self.assertEqual(clash("dog is a kind.", "rex is a dog.", "dog is dog."), [1, 3])
        self.assertEqual(clash("rex is a dog.", "rex is a kind of rex."), [3, 2])
        self.assertEqual(clash("dog is a kind of pet.", "dog is a kind of dog."), [3, 2])
        self.assertEqual(clash("dog is a kind.", "dog is in dog."), [10, 2])
        self.assertEqual(clash("rex is in box.", "rex is in rex."), [10, 2])
        self.assertEqual(clash("rex is a dog.", "rex is a rex."), [1, 2])


class TwoParts(unittest.TestCase):
    # What tells that a name plays a part; the other names in it occur nowhere else.
    PLAYED = {
        "kind": ("x is a kind.", "x is a kind of {}l.", "{}l is a kind of x.", "x can be {}q.", "x has a number {}p.",
                 "{}t is a x.", "every x is {}q.", "every x is not {}q.", "usually every x is {}q.",
                 "usually every x is not {}q.", "the {}p of every x is usually 3."),
        "quality": ("{}k can be x.", "{}t is x.", "{}t is not x.", "every {}k is x.", "every {}k is not x.",
                    "usually every {}k is x.", "usually every {}k is not x."),
        "number": ("{}k has a number x.", "the x of {}t is 3.", "the x of every {}k is usually 3."),
        "thing": ("x is a {}k.", "x is {}q.", "x is not {}q.", "the {}p of x is 3.", "x is in {}u.", "{}u is in x."),
    }

    def test_each_part_with_each_other(self):
        for one, first_lines in self.PLAYED.items():
            for two, second_lines in self.PLAYED.items():
                for first in first_lines:
                    for second in second_lines:
                        told = (first.format("b"), second.format("c"))
                        if one != two:
                            self.assertEqual(clash(*told), [1, 1, 2], told)
                        else:
                            self.assertNotEqual(clash(*told)[0], 1, told)

    def test_the_first_such_line(self):
        self.assertEqual(clash("pet is a kind.", "dog is a kind.", "dog can be big.", "rex is a dog.", "dog is big."),
                         [1, 2, 5])
        self.assertEqual(clash("pet is a kind.", "rex is a pet.", "pet can be big.", "big is a rex."), [1, 2, 4])

    def test_ahead_of_the_ways_of_the_form(self):
        self.assertEqual(clash("dog is a kind of pet.", "rex is a dog.", "dog is a kind of rex."), [1, 2, 3])
        self.assertEqual(clash("rex is a dog.", "dog can be big.", "rex is a big."), [1, 2, 3])
        self.assertEqual(clash("rex is in box.", "box is a dog.", "rex is in dog."), [1, 2, 3])


class ManyWaysInOneLine(unittest.TestCase):
    def test_way_2_ahead_of_3(self):
        self.assertEqual(clash("bee is a kind of cow.", "doe is a kind of bee.", "bee is a kind of doe."), [2, 1, 3])

    def test_way_9_ahead_of_10(self):
        self.assertEqual(clash("bob is in cup.", "dan is in bob.", "bob is in dan."), [9, 1, 3])

    def test_ways_of_the_form_ahead_of_7(self):
        self.assertEqual(clash("rex is a dog.", "every dog is not big.", "rex is not big.", "rex is big."), [5, 3, 4])
        self.assertEqual(clash("rex is a dog.", "rex is big.", "every dog is big.", "every dog is not big."), [6, 3, 4])
        self.assertEqual(clash("bee is a kind of cow.", "rex is a cow.", "every cow is big.", "every bee is not big.",
                               "cow is a kind of bee."), [3, 1, 5])

    def test_way_1_ahead_of_7(self):
        self.assertEqual(clash("rex is a dog.", "every dog is not big.", "big is a kind.", "rex is big."), [1, 2, 3])
        self.assertEqual(clash("rex is a dog.", "every pet is not big.", "rex is big.", "pet is in box.",
                               "dog is a kind of pet."), [1, 2, 4])
        self.assertEqual(clash("every pet is big.", "every dog is not big.", "rex is in dan.", "rex is a dog.",
                               "dan is a kind of pet."), [1, 3, 5])

    def test_the_first_line_that_clashes(self):
        self.assertEqual(clash("rex is big.", "rex is in box.", "rex is in bag.", "rex is not big.", "dog is a dog."),
                         [9, 2, 3])
        self.assertEqual(clash("the age of rex is 1.", "rex is big.", "rex is not big.", "the age of rex is 2.",
                               "rex is in rex."), [5, 2, 3])

    def test_the_first_contrary_line(self):
        self.assertEqual(clash("rex is big.", "rex is big.", "rex is not big."), [5, 1, 3])
        self.assertEqual(clash("rex is a dog.", "rex is a dog.", "rex is a cat."), [4, 1, 3])
        self.assertEqual(clash("dog is a kind of pet.", "dog is a kind of pet.", "dog is a kind of cat."), [2, 1, 3])
        self.assertEqual(clash("every dog is big.", "every dog is big.", "every dog is not big."), [6, 1, 3])
        self.assertEqual(clash("the age of rex is 1.", "the age of rex is 1.", "the age of rex is 2."), [8, 1, 3])
        self.assertEqual(clash("rex is in box.", "rex is in box.", "rex is in bag."), [9, 1, 3])
        self.assertEqual(clash("usually every dog is big.", "usually every dog is big.",
                               "usually every dog is not big."), [11, 1, 3])
        self.assertEqual(clash("the age of every dog is usually 1.", "the age of every dog is usually 1.",
                               "the age of every dog is usually 2."), [12, 1, 3])
        self.assertEqual(clash("dog is a kind.", "dog is a kind.", "dog is in box."), [1, 1, 3])


class Rings(unittest.TestCase):
    def test_only_the_lines_by_which_one_comes_there(self):
        self.assertEqual(clash("pet is a kind.", "life is a kind of matter.", "doe is a kind of pet.",
                               "dog is a kind of pet.", "pet is a kind of life.", "cat is a kind of dog.",
                               "life is a kind of matter.", "matter is a kind of dog."), [3, 2, 4, 5, 8])

    def test_only_as_far_as_the_name(self):
        # Above bee one could go farther up; below cow there is more.
        self.assertEqual(clash("bee is a kind.", "doe is a kind of cow.", "cow is a kind of bee.",
                               "bee is a kind of cow."), [3, 3, 4])

    def test_the_first_of_lines_that_say_the_same(self):
        self.assertEqual(clash("pet is a kind of life.", "dog is a kind of pet.", "pet is a kind of life.",
                               "dog is a kind of pet.", "life is a kind of dog."), [3, 1, 2, 5])
        self.assertEqual(clash("box is in bag.", "rex is in box.", "box is in bag.", "rex is in box.",
                               "bag is in rex."), [10, 1, 2, 5])

    def test_things_in_things(self):
        self.assertEqual(clash("tom is in hall.", "rex is in box.", "ann is in rex.", "hall is in town.",
                               "box is in hall.", "hall is in town.", "town is in rex."), [10, 2, 4, 5, 7])

    def test_a_ring_of_forty(self):
        names = [letter + other for letter in "bcdf" for other in "bcdfghjklm"]
        kinds = [f"{one} is a kind of {two}." for one, two in zip(names, names[1:] + names[:1])]
        self.assertEqual(clash(*kinds), [3] + list(range(1, 41)))
        self.assertEqual(clash(*reversed(kinds)), [3] + list(range(1, 41)))
        places = [f"{one} is in {two}." for one, two in zip(names, names[1:] + names[:1])]
        self.assertEqual(clash(*places), [10] + list(range(1, 41)))
        self.assertEqual(clash(*places[:39]), NONE)


class Torn(unittest.TestCase):
    def test_each_case(self):
        for told, found in TORN:
            self.assertEqual(clash(*told), found, told)

    def test_the_word_of_the_nearer_kind(self):
        self.assertEqual(clash("rex is a bee.", "every bee is big.", "every cow is not big.", "every doe is not big.",
                               "cow is a kind of doe.", "bee is a kind of cow."), [7, 1, 2, 3, 6])

    def test_the_word_of_the_farther_kind(self):
        self.assertEqual(clash("rex is a bee.", "every bee is big.", "every cow is big.", "every doe is not big.",
                               "cow is a kind of doe.", "bee is a kind of cow."), [7, 1, 2, 4, 5, 6])

    def test_both_words_farther_up(self):
        self.assertEqual(clash("rex is a bee.", "doe is a kind of elk.", "every cow is big.", "every doe is not big.",
                               "cow is a kind of doe.", "every elk is not big.", "bee is a kind of cow."),
                         [7, 1, 3, 4, 5, 7])

    def test_words_about_the_thing_go_first(self):
        self.assertEqual(clash("every bee is big.", "rex is a bee.", "every cow is not big.", "rex is big.",
                               "bee is a kind of cow."), [7, 2, 3, 4, 5])

    def test_the_first_of_lines_that_say_the_same(self):
        self.assertEqual(clash("rex is a bee.", "rex is a bee.", "rex is big.", "rex is big.", "every cow is not big.",
                               "every cow is not big.", "bee is a kind of cow."), [7, 1, 3, 5, 7])
        self.assertEqual(clash("bee is a kind of cow.", "bee is a kind of cow.", "every bee is not big.",
                               "every bee is not big.", "rex is a bee.", "every cow is big."), [7, 1, 3, 5, 6])

    def test_the_first_thing(self):
        told = ["every pet is not big.", "tom is big.", "rex is big.", "rex is a dog.", "tom is a dog.",
                "dog is a kind of pet."]
        self.assertEqual(clash(*told), [7, 1, 3, 4, 6])
        told[3], told[4] = told[4], told[3]
        self.assertEqual(clash(*told), [7, 1, 2, 4, 6])

    def test_the_first_thing_by_its_first_line(self):
        self.assertEqual(clash("tom is a dog.", "rex is a dog.", "tom is a dog.", "rex is big.", "tom is big.",
                               "every dog is not big."), [7, 1, 5, 6])

    def test_a_thing_ahead_of_a_quality(self):
        self.assertEqual(clash("tom is big.", "rex is old.", "every pet is not big.", "every pet is not old.",
                               "rex is a dog.", "tom is a dog.", "dog is a kind of pet."), [7, 2, 4, 5, 7])

    def test_the_first_quality(self):
        told = ["rex is a dog.", "rex is old.", "rex is big.", "every pet is not big.", "every pet is not old.",
                "dog is a kind of pet."]
        self.assertEqual(clash(*told), [7, 1, 2, 5, 6])
        told[1], told[2] = told[2], told[1]
        self.assertEqual(clash(*told), [7, 1, 2, 4, 6])

    def test_the_first_quality_named_about_whatever_thing_or_kind(self):
        tearing = ("rex is a dog.", "rex is old.", "rex is big.", "every pet is not big.", "every pet is not old.",
                   "dog is a kind of pet.")
        for ahead in ("tom is big.", "tom is not big.", "every cow is big.", "every cow is not big."):
            self.assertEqual(clash(ahead, *tearing), [7, 2, 4, 5, 7], ahead)
        for ahead in ("cow can be big.", "usually every cow is big.", "usually every cow is not big."):
            self.assertEqual(clash(ahead, *tearing), [7, 2, 3, 6, 7], ahead)

    def test_a_later_line_that_tears_another_thing(self):
        self.assertEqual(clash("tom is a cat.", "rex is a dog.", "every dog is big.", "rex is not big.", "tom is big.",
                               "every cat is not big."), [7, 2, 3, 4])

    def test_up_a_long_chain(self):
        names = [letter + other for letter in "bcdf" for other in "bcdfghjklm"][:37]
        chain = [f"{one} is a kind of {two}." for one, two in zip(names, names[1:])]
        told = [f"rex is a {names[0]}.", f"every {names[-1]} is big.", "rex is not big."] + chain
        self.assertEqual(len(told), 39)
        self.assertEqual(clash(*told), [7] + list(range(1, 40)))
        self.assertEqual(clash(*reversed(told)), [7] + list(range(1, 40)))


class Promises(unittest.TestCase):
    def test_the_lines_told_clash_by_themselves_and_none_can_be_left_out(self):
        for told, found in WAYS + TORN:
            alone = [told[number - 1] for number in found[1:]]
            self.assertNotEqual(clash(*alone), NONE)
            for place in range(len(alone)):
                self.assertEqual(clash(*alone[:place], *alone[place + 1:]), NONE, told)

    def test_the_order_makes_no_difference_to_whether_it_clashes(self):
        for told, found in WAYS + TORN:
            for ordered in itertools.permutations(told):
                self.assertNotEqual(clash(*ordered), NONE, ordered)
            for ordered in itertools.permutations(told[:-1]):
                self.assertEqual(clash(*ordered), NONE, ordered)


if __name__ == "__main__":
    unittest.main()
