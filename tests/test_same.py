"""The call same: whether another text makes the same world as the kept one."""

import itertools
import unittest

from tests.helper import MAKES, NORMAL, SHOWN, add, as_bytes, cut, last, lines, normal, page, row, run, same, same_bytes

WORLD = ("rex is in box.", "usually every pet is loud.", "box is a crate.", "rex is a dog.", "dog is a kind of pet.",
         "rex is not old.", "pet is a kind.", "pet can be loud.", "pet can be old.", "pet has a number age.",
         "crate is a kind.", "the age of rex is -30.")

NO_WORLDS = (("rex is a dog.",), ("dog is a kind of dog.",), ("dog is a kind.", "rex is a dog.", "rex is in rex."),
             ("dog is a kind.", "dog can be big.", "rex is a dog.", "rex is big.", "every dog is not big."),
             ("dog is a kind.", "rex is a dog.", "rex is big."), ("dog is a kind of pet.",))


def kinds(count):
    letters = "bcdfghjklmnpqrstvwxz"
    return ["k" + letters[place // 20] + letters[place % 20] + " is a kind." for place in range(count)]


class TheSame(unittest.TestCase):
    def test_its_own_lines(self):
        self.assertEqual(last(lines(*WORLD), same(*WORLD)), [0, 1])

    def test_its_own_lines_in_another_order(self):
        for turn in range(len(WORLD)):
            turned = WORLD[turn:] + WORLD[:turn]
            self.assertEqual(run(lines(*WORLD), same(*turned), same(*turned[::-1]))[1:], [[0, 1], [0, 1]])

    def test_its_one_form(self):
        self.assertEqual(last(lines(*WORLD), same(*normal(*WORLD))), [0, 1])
        self.assertEqual(last(lines(*normal(*WORLD)), same(*WORLD)), [0, 1])

    def test_told_in_another_way(self):
        told = ("dog is a kind.", "dog can be big.", "rex is a dog.")
        for one, two in itertools.product(("rex is big.", "every dog is big.", "usually every dog is big."), repeat=2):
            self.assertEqual(last(lines(*told, one), same(*told, two)), [0, 1])
        self.assertEqual(last(lines(*told), same(*told, "usually every dog is not big.")), [0, 1])
        self.assertEqual(last(lines(*told), same(*told, "rex is not big.", "dog is a kind.")), [0, 1])

    def test_the_empty_text(self):
        self.assertEqual(run(same(), lines("dog is a kind."), same(), cut(1), same()),
                         [[0, 1], [0, 0, 1], [0, 0], [0, 0], [0, 1]])

    def test_more_than_forty_lines(self):
        self.assertEqual(last(lines(*WORLD), same(*WORLD * 5)), [0, 1])
        self.assertEqual(last(lines(*kinds(40)), same(*kinds(41))), [0, 0])
        self.assertEqual(last(lines(*kinds(40)), same(*kinds(40), *kinds(40)[::-1])), [0, 1])

    def test_a_one_form_of_more_than_forty_lines(self):
        told = ["kb is a kind.", "kc is a kind of kb.", "kd is a kind of kc.", "t is a kd.", "u is a kb."]
        told += [f"kb can be q{letter}." for letter in "bcdefghijk"]
        form = normal(*told)
        self.assertGreater(len(form), 40)
        self.assertEqual(last(lines(*told), same(*form)), [0, 1])
        self.assertEqual(last(lines(*told), same(*form[::-1])), [0, 1])


class Another(unittest.TestCase):
    def test_another_world_with_the_same_things(self):
        told = ("dog is a kind.", "dog can be big.", "dog has a number age.", "rex is a dog.", "box is a dog.",
                "cat is a kind.")
        for more in ("rex is big.", "every dog is big.", "usually every dog is big.", "the age of rex is 1.",
                     "the age of every dog is usually -1.", "rex is in box.", "box is in rex.", "dog can be old.",
                     "dog has a number size.", "dog is a kind of cat.", "cat is a kind of dog.", "elk is a kind.",
                     "tom is a dog.", "cat can be big."):
            self.assertEqual(last(lines(*told), same(*told, more)), [0, 0], more)
            self.assertEqual(last(lines(*told, more), same(*told)), [0, 0], more)

    def test_a_thing_of_another_kind(self):
        told = ("dog is a kind.", "cat is a kind.")
        self.assertEqual(last(lines(*told, "rex is a dog."), same(*told, "rex is a cat.")), [0, 0])

    def test_other_numbers_and_places(self):
        told = ("dog is a kind.", "dog has a number age.", "rex is a dog.", "box is a dog.", "bag is a dog.")
        self.assertEqual(last(lines(*told, "the age of rex is 3."), same(*told, "the age of rex is -3.")), [0, 0])
        self.assertEqual(last(lines(*told, "rex is in box."), same(*told, "rex is in bag.")), [0, 0])

    def test_other_names(self):
        self.assertEqual(last(lines("dog is a kind."), same("dogs is a kind.")), [0, 0])


class NoText(unittest.TestCase):
    def test_the_first_line_that_is_no_sentence(self):
        self.assertEqual(last(lines(*WORLD), same("dog is a kind.", "what", "pet", "rex is a dog.")), [0, 2, 2])
        self.assertEqual(last(lines(*WORLD), same("what")), [0, 2, 1])
        self.assertEqual(last(lines(*WORLD), same(*WORLD, "")), [0, 2, len(WORLD) + 1])

    def test_behind_the_last_line_end(self):
        self.assertEqual(last(lines(*WORLD), same_bytes("dog is a kind.")), [0, 2, 1])
        self.assertEqual(last(lines(*WORLD), same_bytes(page(WORLD) + "dog is a kind.")), [0, 2, len(WORLD) + 1])
        self.assertEqual(last(lines(*WORLD), same_bytes(page(WORLD) + " ")), [0, 2, len(WORLD) + 1])

    def test_behind_more_than_forty_lines(self):
        self.assertEqual(last(same(*kinds(60), "dog is a kind")), [0, 2, 61])
        self.assertEqual(last(same_bytes(page(kinds(45)) + "x")), [0, 2, 46])

    def test_ahead_of_lines_that_clash(self):
        self.assertEqual(last(same("dog is a kind of dog.", "rex is a cat.", "what")), [0, 2, 3])

    def test_bytes_of_no_sign(self):
        self.assertEqual(last([15] + row([0])), [0, 2, 1])
        self.assertEqual(last([15] + row([255, 10])), [0, 2, 1])
        self.assertEqual(last([15] + row([10])), [0, 2, 1])


class NoWorld(unittest.TestCase):
    def test_a_text_that_clashes_or_lacks_something(self):
        for told in NO_WORLDS:
            self.assertEqual(last(lines(*WORLD), same(*told)), [0, 3], told)
            self.assertEqual(last(same(*told)), [0, 3], told)

    def test_by_a_line_behind_the_fortieth(self):
        for told in NO_WORLDS:
            self.assertEqual(last(same(*kinds(41), *told)), [0, 3], told)

    def test_torn_behind_the_fortieth_line(self):
        told = ["dog is a kind.", "dog can be big."] + [f"t{line[1:3]} is a dog." for line in kinds(60)]
        self.assertEqual(last(same(*told, "tbc is big.", "every dog is big.")), [0, 0])
        self.assertEqual(last(same(*told, "tbc is not big.", "every dog is big.")), [0, 3])
        self.assertEqual(last(same("tzz is not big.", "every dog is big.", *told, "tzz is a dog.")), [0, 3])

    def test_the_kept_text_makes_no_world(self):
        for kept in NO_WORLDS:
            for handed in (same(*kept), same(), same(*WORLD), same("what"), same_bytes("x"), same(*kinds(41))):
                self.assertEqual(last(lines(*kept), handed), [-4])


class Lengths(unittest.TestCase):
    def test_4000_numbers(self):
        exact = page(["xyz is a kind."] * 262) + page(["wxyz is a kind of xyz."] * 2) + page(["t is a xyz."] * 2)
        self.assertEqual(len(exact), 4000)
        form = ("wxyz is a kind of xyz.", "xyz is a kind.", "t is a xyz.")
        self.assertEqual(last(lines(*form), same_bytes(exact)), [0, 1])
        self.assertEqual(last(same_bytes(exact)), [0, 0])
        self.assertEqual(last(same_bytes("x" * 4000)), [0, 2, 1])
        self.assertEqual(last(same_bytes("\n" * 4000)), [0, 2, 1])

    def test_4001_numbers(self):
        told = page(["xyz is a kind."] * 262) + page(["wxyz is a kind of xyz."] * 2) + page(["t is a xyz."]) \
            + page(["tt is a xyz."])
        self.assertEqual(len(told), 4001)
        self.assertEqual(last(same_bytes(told)), [-1])
        self.assertEqual(last(same_bytes("x" * 4001)), [-1])
        self.assertEqual(last(same_bytes("x" * 4010)), [-1])

    def test_numbers_that_are_no_bytes(self):
        whole = as_bytes(page(WORLD))
        for wrong in (-1, 256, 10 + 256, 1000000000000000000, -1000000000000000000):
            for start in (0, 5, len(whole)):
                self.assertEqual(last(lines(*WORLD), [15] + row(whole[:start] + [wrong] + whole[start:])), [-1])

    def test_1_with_4(self):
        self.assertEqual(last(lines("rex is a dog."), same_bytes("x" * 4001)), [-1])
        self.assertEqual(last(lines("rex is a dog."), [15] + row([256])), [-1])

    def test_many_kinds_things_and_qualities(self):
        letters = "bcdfghjklmnpqrstvwxz"
        pairs = [one + two for one in letters for two in letters]
        chain, qualities, found = pairs[:60], pairs[60:150], pairs[150:260]
        told = [f"{one} is a kind of {two}." for one, two in zip(chain, chain[1:])] + [f"{chain[-1]} is a kind."]
        told += [f"{chain[-1]} can be {name}." for name in qualities] + [f"{name} is a {chain[0]}." for name in found]
        self.assertLessEqual(len(page(told)), 4000)
        self.assertEqual(last(same(*told)), [0, 0])
        self.assertEqual(last(same(*told, f"{found[-1]} is {found[0]}.")), [0, 3])


class NothingChanges(unittest.TestCase):
    def test_the_kept_text_stays(self):
        found = run(lines(*WORLD), NORMAL, same("dog is a kind."), same("what"), same("rex is a dog."), same(*kinds(41)),
                    same_bytes("x" * 4001), SHOWN, NORMAL, MAKES, add("cow is a kind."))
        self.assertEqual(found[2:7], [[0, 0], [0, 2, 1], [0, 3], [0, 0], [-1]])
        self.assertEqual(found[7], [0] + as_bytes(page(WORLD)))
        self.assertEqual(found[8], found[1])
        self.assertEqual(found[9:], [[0, 1], [0, len(WORLD) + 1]])


if __name__ == "__main__":
    unittest.main()
