"""What is lacking, and what makes a world."""

import itertools
import unittest

from tests.helper import LACKING, MAKES, add, cut, lacking, lines, makes, run

# A line, and the lines that found it, none of which can be left out.
FOUNDED = (
    ("dog is a kind.", ()),
    ("dog is a kind of pet.", ("pet is a kind.",)),
    ("dog is a kind of pet.", ("pet is a kind of life.", "life is a kind.")),
    ("dog can be big.", ("dog is a kind.",)),
    ("dog can be big.", ("dog is a kind of pet.", "pet is a kind.")),
    ("dog has a number age.", ("dog is a kind.",)),
    ("dog has a number age.", ("dog is a kind of pet.", "pet is a kind.")),
    ("rex is a dog.", ("dog is a kind.",)),
    ("rex is a dog.", ("dog is a kind of pet.", "pet is a kind.")),
    ("rex is big.", ("rex is a dog.", "dog can be big.", "dog is a kind.")),
    ("rex is not big.", ("rex is a dog.", "dog can be big.", "dog is a kind.")),
    ("rex is big.", ("rex is a dog.", "pet can be big.", "dog is a kind of pet.", "pet is a kind.")),
    ("every dog is big.", ("dog can be big.", "dog is a kind.")),
    ("every dog is not big.", ("dog can be big.", "dog is a kind.")),
    ("every dog is big.", ("pet can be big.", "dog is a kind of pet.", "pet is a kind.")),
    ("usually every dog is big.", ("dog can be big.", "dog is a kind.")),
    ("usually every dog is not big.", ("dog can be big.", "dog is a kind.")),
    ("usually every dog is big.", ("pet can be big.", "dog is a kind of pet.", "pet is a kind.")),
    ("the age of rex is 7.", ("rex is a dog.", "dog has a number age.", "dog is a kind.")),
    ("the age of rex is 7.", ("rex is a dog.", "pet has a number age.", "dog is a kind of pet.", "pet is a kind.")),
    ("the age of every dog is usually 7.", ("dog has a number age.", "dog is a kind.")),
    ("the age of every dog is usually 7.", ("pet has a number age.", "dog is a kind of pet.", "pet is a kind.")),
    ("rex is in box.", ("rex is a dog.", "box is a dog.", "dog is a kind.")),
    ("rex is in box.", ("rex is a dog.", "box is a crate.", "dog is a kind.", "crate is a kind.")),
)


class Founded(unittest.TestCase):
    def test_lines_that_are_founded_in_whatever_order(self):
        for line, ground in FOUNDED:
            for ordered in itertools.permutations((line,) + ground):
                self.assertEqual(lacking(*ordered), [], ordered)
                self.assertEqual(makes(*ordered), [0, 1], ordered)

    def test_without_any_one_of_the_grounds_the_text_makes_no_world(self):
        for line, ground in FOUNDED:
            for place in range(len(ground)):
                left = (line,) + ground[:place] + ground[place + 1:]
                self.assertNotEqual(lacking(*left), [], left)
                self.assertEqual(makes(*left), [0, 0], left)

    def test_the_empty_text(self):
        self.assertEqual(run(LACKING, MAKES), [[0], [0, 1]])


class Unfounded(unittest.TestCase):
    def test_each_form_alone(self):
        self.assertEqual(lacking("dog is a kind."), [])
        for line in ("dog is a kind of pet.", "dog can be big.", "dog has a number age.", "rex is a dog.",
                     "rex is big.", "rex is not big.", "every dog is big.", "every dog is not big.",
                     "usually every dog is big.", "usually every dog is not big.", "the age of rex is 7.",
                     "the age of every dog is usually 12.", "rex is in box."):
            self.assertEqual(lacking(line), [1], line)
            self.assertEqual(makes(line), [0, 0], line)

    def test_a_thing_whose_kind_cannot_be_that(self):
        for line in ("rex is big.", "rex is not big.", "every dog is big.", "every dog is not big.",
                     "usually every dog is big.", "usually every dog is not big."):
            told = ("dog is a kind.", "rex is a dog.", "dog can be old.", "cat is a kind of dog.", "cat can be big.",
                    "dog has a number age.", line)
            self.assertEqual(lacking(*told), [7], line)

    def test_a_thing_whose_kind_does_not_have_that_number(self):
        for line in ("the age of rex is 7.", "the age of every dog is usually 7."):
            told = ("dog is a kind.", "rex is a dog.", "dog has a number size.", "cat is a kind of dog.",
                    "cat has a number age.", "dog can be old.", line)
            self.assertEqual(lacking(*told), [7], line)

    def test_a_thing_without_a_kind(self):
        told = ("dog is a kind.", "dog can be big.", "dog has a number age.", "rex is big.", "the age of rex is 7.")
        self.assertEqual(lacking(*told), [4, 5])

    def test_a_thing_of_a_kind_that_is_not_there(self):
        # The kind isn't there, but it can be big and has an age all the same.
        told = ("rex is a dog.", "dog can be big.", "dog has a number age.", "rex is big.", "the age of rex is 7.")
        self.assertEqual(lacking(*told), [1, 2, 3])

    def test_a_kind_that_is_not_there_but_can_be_that(self):
        told = ("dog can be big.", "every dog is big.", "usually every dog is big.", "dog has a number age.",
                "the age of every dog is usually 7.")
        self.assertEqual(lacking(*told), [1, 2, 3, 4, 5])

    def test_a_kind_over_one_that_is_there(self):
        # Going up one comes to pet, which isn't there but can be big.
        told = ("dog is a kind of pet.", "pet can be big.", "every dog is big.", "rex is a dog.", "rex is big.")
        self.assertEqual(lacking(*told), [1, 2])

    def test_a_kind_is_there_by_a_line_that_begins_with_it_alone(self):
        self.assertEqual(lacking("dog is a kind of pet.", "rex is a pet.", "tom is a dog."), [1, 2])

    def test_one_of_two_things_has_no_kind(self):
        self.assertEqual(lacking("dog is a kind.", "rex is a dog.", "rex is in box.", "box is in rex."), [3, 4])
        self.assertEqual(lacking("box is a dog.", "dog is a kind.", "rex is in box."), [3])
        self.assertEqual(lacking("rex is a dog.", "dog is a kind.", "rex is in box."), [3])

    def test_what_is_in_a_thing_whose_kind_is_not_there(self):
        self.assertEqual(lacking("rex is a dog.", "box is a dog.", "rex is in box."), [1, 2])

    def test_each_unfounded_line_by_rising_numbers(self):
        self.assertEqual(lacking("rex is big.", "dog is a kind.", "rex is in box.", "rex is a dog.", "tom is a cat.",
                                 "dog has a number age.", "the age of rex is 1.", "the age of tom is 1."), [1, 3, 5, 8])

    def test_founded_by_a_line_that_is_added_and_gone_again(self):
        found = run(add("rex is a dog."), LACKING, MAKES, add("dog is a kind."), LACKING, MAKES, cut(2), LACKING, MAKES)
        self.assertEqual([found[k] for k in (1, 2, 4, 5, 7, 8)], [[0, 1], [0, 0], [0], [0, 1], [0, 1], [0, 0]])


class InATextThatClashes(unittest.TestCase):
    def test_founded_lines_that_clash_make_no_world(self):
        for told in (("dog is a kind.", "dog can be big.", "rex is a dog.", "rex is big.", "rex is not big."),
                     ("dog is a kind of dog.",),
                     ("dog is a kind.", "rex is a dog.", "rex is in rex."),
                     ("dog is a kind.", "dog is a dog."),
                     ("dog is a kind.", "dog can be big.", "rex is a dog.", "rex is big.", "every dog is not big.")):
            self.assertEqual(lacking(*told), [])
            self.assertEqual(makes(*told), [0, 0])

    def test_going_up_in_a_ring_comes_to_an_end(self):
        told = ("bee is a kind of cow.", "cow is a kind of doe.", "doe is a kind of bee.", "doe can be big.",
                "every bee is big.", "every cow is old.", "rex is a cow.", "rex is big.", "the age of rex is 1.")
        self.assertEqual(lacking(*told), [6, 9])
        self.assertEqual(lacking("dog is a kind of dog.", "dog can be big.", "every dog is big.", "every dog is old."),
                         [4])
        self.assertEqual(lacking("bee is a kind of cow.", "cow is a kind of doe.", "doe is a kind of cow.",
                                 "doe can be big.", "every bee is big.", "every bee is old."), [6])

    def test_the_first_line_over_a_kind_counts(self):
        told = ("dog is a kind of pet.", "dog is a kind of toy.", "pet is a kind.", "toy is a kind.", "toy can be big.",
                "pet can be old.", "every dog is big.", "every dog is old.")
        self.assertEqual(lacking(*told), [7])

    def test_the_first_kind_of_a_thing_counts(self):
        told = ("rex is a dog.", "rex is a cat.", "dog is a kind.", "cat is a kind.", "cat can be big.",
                "dog has a number age.", "rex is big.", "the age of rex is 3.")
        self.assertEqual(lacking(*told), [7])

    def test_names_that_play_several_parts(self):
        # dog as a thing has a kind; dog as a kind isn't there.
        self.assertEqual(lacking("dog is a cat.", "rex is a dog.", "cat is a kind.", "dog is in rex."), [2])
        self.assertEqual(lacking("dog can be dog.", "dog is a kind.", "every dog is dog."), [])

    def test_forty_lines_in_a_ring(self):
        names = [letter + other for letter in "bcdf" for other in "bcdfghjklm"]
        ring = [f"{one} is a kind of {two}." for one, two in zip(names, names[1:] + names[:1])]
        self.assertEqual(run(lines(*ring), LACKING, MAKES)[1:], [[0], [0, 0]])
        ring[7] = "every bb is big."
        ring[8] = "lonely is a kind."
        self.assertEqual(run(lines(*ring), LACKING)[1], [0, 7, 8])


if __name__ == "__main__":
    unittest.main()
