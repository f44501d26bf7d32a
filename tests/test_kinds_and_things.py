"""The calls kind, chain, place and things."""

import unittest

from tests.helper import add, as_bytes, chain, cut, kind, last, lines, names, place, run, things

WORLD = ("rex is in box.", "dog is a kind of pet.", "rex is a dog.", "cat is a kind of pet.", "pet is a kind of life.",
         "life is a kind.", "stone is a kind.", "box is a stone.", "box is in hall.", "hall is a stone.",
         "hall is in town.", "town is a stone.", "rexy is a cat.", "re is a pet.", "air is a kind.", "dog is a kind.",
         "rex is a dog.", "rexy is in hall.", "pup is a kind of dog.", "bo is a pup.")


def asked(call):
    return last(lines(*WORLD), call)


class Kind(unittest.TestCase):
    def test_each_thing(self):
        for thing, name in (("rex", "dog"), ("rexy", "cat"), ("re", "pet"), ("box", "stone"), ("bo", "pup")):
            self.assertEqual(asked(kind(thing)), [0] + as_bytes(name))

    def test_the_bytes_stand_without_how_many_they_are(self):
        self.assertEqual(asked(kind("rex")), [0, 100, 111, 103])
        self.assertEqual(last(lines("k is a kind.", "t is a k."), kind("t")), [0, 107])

    def test_a_name_of_a_kind_a_quality_or_a_number(self):
        for name in ("dog", "pet", "life", "air"):
            self.assertEqual(asked(kind(name)), [-5])
        told = lines("dog is a kind.", "dog can be big.", "dog has a number age.", "rex is a dog.")
        self.assertEqual(run(told, kind("big"), kind("age"), kind("rex"))[1:], [[-5], [-5], [0] + as_bytes("dog")])

    def test_a_name_that_stands_only_behind_of_or_in(self):
        # Such a line is unfounded, so the text makes no world.
        self.assertEqual(last(lines("dog is a kind.", "dog has a number age.", "the age of rex is 3."), kind("rex")), [-4])
        self.assertEqual(last(lines("dog is a kind.", "rex is a dog.", "rex is in box."), kind("box")), [-4])

    def test_of_the_text_as_it_is_now(self):
        found = run(add("dog is a kind."), kind("rex"), add("rex is a dog."), kind("rex"), cut(2), kind("rex"))
        self.assertEqual([found[k] for k in (1, 3, 5)], [[-5], [0] + as_bytes("dog"), [-5]])


class Chain(unittest.TestCase):
    def test_a_kind_by_itself(self):
        self.assertEqual(asked(chain("stone")), [0] + names("stone"))
        self.assertEqual(asked(chain("air")), [0, 1, 3, 97, 105, 114])
        self.assertEqual(asked(chain("life")), [0] + names("life"))

    def test_kinds_with_several_over_them(self):
        self.assertEqual(asked(chain("pet")), [0] + names("pet", "life"))
        self.assertEqual(asked(chain("cat")), [0] + names("cat", "pet", "life"))
        self.assertEqual(asked(chain("dog")), [0] + names("dog", "pet", "life"))
        self.assertEqual(asked(chain("pup")), [0] + names("pup", "dog", "pet", "life"))
        self.assertEqual(asked(chain("dog")), [0, 3, 3] + as_bytes("dog") + [3] + as_bytes("pet") + [4] + as_bytes("life"))

    def test_a_name_of_a_thing_a_quality_or_a_number(self):
        for name in ("rex", "box", "town"):
            self.assertEqual(asked(chain(name)), [-5])
        told = lines("dog is a kind.", "dog can be big.", "dog has a number age.", "rex is a dog.")
        self.assertEqual(run(told, chain("big"), chain("age"), chain("dog"))[1:], [[-5], [-5], [0] + names("dog")])

    def test_a_name_that_stands_only_behind_of(self):
        # Such a line is unfounded, so the text makes no world.
        self.assertEqual(last(lines("dog is a kind of pet."), chain("pet")), [-4])
        self.assertEqual(last(lines("dog is a kind of pet.", "pet is a kind."), chain("pet")), [0] + names("pet"))

    def test_forty_kinds(self):
        told = ["k" + letter + other for letter in "bcdf" for other in "bcdfghjklm"]
        text = [f"{one} is a kind of {two}." for one, two in zip(told, told[1:])] + [f"{told[-1]} is a kind."]
        for ordered in (text, text[::-1]):
            self.assertEqual(last(lines(*ordered), chain(told[0])), [0] + names(*told))
            self.assertEqual(last(lines(*ordered), chain(told[20])), [0] + names(*told[20:]))
            self.assertEqual(last(lines(*ordered), chain(told[-1])), [0] + names(told[-1]))


class Place(unittest.TestCase):
    def test_in_nothing(self):
        self.assertEqual(asked(place("town")), [0, 0])
        self.assertEqual(asked(place("re")), [0, 0])

    def test_in_one(self):
        self.assertEqual(asked(place("hall")), [0] + names("town"))
        self.assertEqual(last(lines("k is a kind.", "t is a k.", "u is a k.", "t is in u."), place("t")), [0, 1, 1, 117])

    def test_in_one_that_is_in_another(self):
        self.assertEqual(asked(place("box")), [0] + names("hall", "town"))
        self.assertEqual(asked(place("rexy")), [0] + names("hall", "town"))
        self.assertEqual(asked(place("rex")), [0] + names("box", "hall", "town"))

    def test_told_twice(self):
        self.assertEqual(last(lines(*WORLD, "rex is in box.", "box is in hall."), place("rex")),
                         [0] + names("box", "hall", "town"))

    def test_no_such_thing(self):
        for name in ("dog", "stone", "nobody"):
            self.assertEqual(asked(place(name)), [-5])

    def test_a_long_way_up(self):
        told = ["t" + letter for letter in "bcdfghjklmnpqrstvwx"]
        text = ["k is a kind."] + [f"{name} is a k." for name in told]
        text += [f"{one} is in {two}." for one, two in zip(told, told[1:])]
        self.assertEqual(len(text), 38)
        self.assertEqual(last(lines(*text), place(told[0])), [0] + names(*told[1:]))
        self.assertEqual(last(lines(*text[::-1]), place(told[0])), [0] + names(*told[1:]))


class Things(unittest.TestCase):
    def test_of_this_kind_alone(self):
        self.assertEqual(asked(things("pup")), [0] + names("bo"))
        self.assertEqual(asked(things("cat")), [0] + names("rexy"))
        self.assertEqual(asked(things("stone")), [0] + names("box", "hall", "town"))

    def test_of_this_kind_and_of_kinds_under_it(self):
        self.assertEqual(asked(things("dog")), [0] + names("bo", "rex"))

    def test_of_kinds_under_it_alone(self):
        self.assertEqual(asked(things("life")), [0] + names("bo", "re", "rex", "rexy"))

    def test_one_name_is_the_beginning_of_another(self):
        self.assertEqual(asked(things("pet")), [0, 4, 2] + as_bytes("bo") + [2] + as_bytes("re") + [3] + as_bytes("rex")
                         + [4] + as_bytes("rexy"))
        for ordered in (("tt", "t", "tat", "s"), ("tat", "t", "s", "tt"), ("s", "tt", "tat", "t")):
            text = ["k is a kind."] + [f"{name} is a k." for name in ordered]
            self.assertEqual(last(lines(*text), things("k")), [0] + names("s", "t", "tat", "tt"))

    def test_a_kind_without_things(self):
        self.assertEqual(asked(things("air")), [0, 0])
        self.assertEqual(last(lines("pet is a kind.", "dog is a kind of pet.", "rex is a pet."), things("dog")), [0, 0])

    def test_a_thing_told_twice_stands_once(self):
        self.assertEqual(last(lines("dog is a kind.", "rex is a dog.", "rex is a dog."), things("dog")), [0] + names("rex"))

    def test_no_such_kind(self):
        for name in ("rex", "box", "nothing"):
            self.assertEqual(asked(things(name)), [-5])

    def test_a_name_that_stands_only_behind_of(self):
        self.assertEqual(last(lines("dog is a kind of pet."), things("pet")), [-4])


if __name__ == "__main__":
    unittest.main()
