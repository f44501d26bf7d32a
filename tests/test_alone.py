"""The call alone: some of the lines as a text of their own."""

import unittest

from tests.helper import CLASH, LACKING, MAKES, SHOWN, alone, as_bytes, cut, last, lines, page, row, run, swap

LARGEST = 1000000000000000000

TOLD = ("dog is a kind.", "dog can be big.", "rex is a dog.", "rex is big.", "every dog is not big.", "rex is not big.",
        "dog is a kind of dog.", "rex is in box.")


def asked(*numbers):
    return last(lines(*TOLD), alone(*numbers))


def kinds(count):
    letters = "bcdfghjklm"
    return ["k" + letters[place // 10] + letters[place % 10] + " is a kind." for place in range(count)]


class SomeLines(unittest.TestCase):
    def test_lines_that_make_a_world(self):
        self.assertEqual(asked(1), [0, 0, 1])
        self.assertEqual(asked(1, 2, 3, 4), [0, 0, 1])
        self.assertEqual(asked(1, 2, 5), [0, 0, 1])
        self.assertEqual(asked(1, 2, 3, 5), [0, 0, 1])

    def test_lines_that_lack_something(self):
        self.assertEqual(asked(3), [0, 0, 0])
        self.assertEqual(asked(2, 3, 4), [0, 0, 0])
        self.assertEqual(asked(1, 3, 4), [0, 0, 0])
        self.assertEqual(asked(1, 3, 8), [0, 0, 0])

    def test_lines_that_clash(self):
        self.assertEqual(asked(1, 2, 3, 4, 6), [0, 5, 0])
        self.assertEqual(asked(4, 6), [0, 5, 0])
        self.assertEqual(asked(1, 2, 3, 4, 5), [0, 7, 0])
        self.assertEqual(asked(3, 4, 5), [0, 7, 0])
        self.assertEqual(asked(4, 5), [0, 0, 0])
        self.assertEqual(asked(7), [0, 3, 0])
        self.assertEqual(asked(1, 7), [0, 3, 0])

    def test_the_clash_is_that_of_the_first_line_that_clashes(self):
        self.assertEqual(asked(3, 4, 5, 6, 7), [0, 7, 0])
        self.assertEqual(asked(4, 5, 6, 7), [0, 5, 0])
        self.assertEqual(asked(1, 2, 3, 4, 5, 6, 7, 8), [0, 7, 0])

    def test_each_way(self):
        told = ("rex is a dog.", "rex is a kind.", "dog is a kind of pet.", "dog is a kind of cat.",
                "pet is a kind of dog.", "rex is a cat.", "every dog is big.", "every dog is not big.",
                "rex is not big.", "the age of rex is 1.", "the age of rex is 2.", "rex is in box.", "rex is in bag.",
                "box is in rex.", "usually every dog is big.", "usually every dog is not big.",
                "the age of every dog is usually 1.", "the age of every dog is usually 2.", "rex is big.")
        for numbers, way in (((1, 2), 1), ((3, 4), 2), ((3, 5), 3), ((1, 6), 4), ((9, 19), 5), ((7, 8), 6),
                             ((1, 7, 9), 7), ((10, 11), 8), ((12, 13), 9), ((12, 14), 10), ((15, 16), 11),
                             ((17, 18), 12)):
            self.assertEqual(last(lines(*told), alone(*numbers)), [0, way, 0], numbers)


class Numbers(unittest.TestCase):
    def test_none(self):
        self.assertEqual(asked(), [0, 0, 1])
        self.assertEqual(last(alone()), [0, 0, 1])

    def test_the_same_one_twice(self):
        self.assertEqual(asked(1, 1), [0, 0, 1])
        self.assertEqual(asked(4, 6, 4, 6), [0, 5, 0])
        self.assertEqual(asked(3, 1, 3), [0, 0, 1])

    def test_in_falling_order(self):
        self.assertEqual(asked(5, 4, 3, 2, 1), [0, 7, 0])
        self.assertEqual(asked(4, 3, 2, 1), [0, 0, 1])
        # In the text's order the ring closes first, in the other one the two kinds over one would.
        told = ("dog is a kind of pet.", "pet is a kind of dog.", "dog is a kind of cat.")
        for numbers in ((1, 2, 3), (3, 2, 1), (3, 1, 2), (2, 3, 1)):
            self.assertEqual(last(lines(*told), alone(*numbers)), [0, 3, 0])

    def test_of_no_line(self):
        self.assertEqual(asked(9), [0, 0, 1])
        self.assertEqual(asked(9, 40), [0, 0, 1])
        self.assertEqual(asked(40, 1, 39), [0, 0, 1])
        self.assertEqual(asked(4, 40, 6), [0, 5, 0])
        self.assertEqual(last(alone(1, 40)), [0, 0, 1])

    def test_out_of_range(self):
        for wrong in (0, 41, -1, 256, LARGEST, -LARGEST):
            self.assertEqual(asked(wrong), [-1])
            self.assertEqual(asked(1, 2, wrong), [-1])
            self.assertEqual(asked(wrong, 1, 2), [-1])
            self.assertEqual(last(alone(wrong)), [-1])

    def test_forty_and_forty_one(self):
        full = kinds(40)
        self.assertEqual(last(lines(*full), alone(*range(1, 41))), [0, 0, 1])
        self.assertEqual(asked(*range(1, 41)), [0, 7, 0])
        self.assertEqual(asked(*[1] * 40), [0, 0, 1])
        self.assertEqual(asked(*[1] * 41), [-1])
        self.assertEqual(last(lines(*full), alone(*range(1, 41), 1)), [-1])
        self.assertEqual(asked(*range(1, 42)), [-1])
        self.assertEqual(last([16] + row([1] * 4010)), [-1])

    def test_line_40(self):
        full = kinds(39) + ["rex is in rex."]
        self.assertEqual(last(lines(*full), alone(40)), [0, 10, 0])
        self.assertEqual(last(lines(*full), alone(39)), [0, 0, 1])


class TheWholeText(unittest.TestCase):
    def test_alone_as_clash_and_makes_say(self):
        for told in (TOLD, TOLD[:4], TOLD[1:4], TOLD[:5], ()):
            found = run(lines(*told), CLASH, MAKES, alone(*range(1, 41)))
            self.assertEqual(found[3], [0, found[1][1], found[2][1]])

    def test_nothing_changes(self):
        found = run(lines(*TOLD), CLASH, LACKING, alone(1, 2), alone(0), alone(8, 8), alone(*[1] * 41), SHOWN, CLASH,
                    LACKING)
        self.assertEqual(found[7], [0] + as_bytes(page(TOLD)))
        self.assertEqual(found[8:], found[1:3])

    def test_of_the_text_as_it_is_now(self):
        found = run(lines(*TOLD), alone(4, 6), cut(1), alone(4, 6), alone(3, 5), swap(1, 5), alone(1, 3))
        self.assertEqual([found[k] for k in (1, 3, 4, 6)], [[0, 5, 0], [0, 3, 0], [0, 5, 0], [0, 5, 0]])


if __name__ == "__main__":
    unittest.main()
