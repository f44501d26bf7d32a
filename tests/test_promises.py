"""The promises, tried on many texts that a fixed row of numbers makes."""

import unittest

from tests.helper import CLASH, LACKING, MAKES, NORMAL, SHOWN, lines, page, run

KINDS = ("bee", "beetle", "cow", "doe")
THINGS = ("rex", "rexy", "tom", "box")
QUALITIES = ("big", "bigger")
NUMBERS = ("age", "size")
GROUND = ["bee is a kind.", "beetle is a kind.", "cow is a kind.", "doe is a kind.", "rex is a bee.", "rexy is a cow.",
          "tom is a beetle.", "box is a doe.", "doe can be big.", "doe can be bigger.", "doe has a number age.",
          "doe has a number size.", "bee is a kind of cow.", "cow is a kind of doe.", "beetle is a kind of doe."]


class Row:
    """A row of numbers that is the same each time."""

    def __init__(self, start):
        self.state = start

    def below(self, limit):
        self.state = (self.state * 6364136223846793005 + 1442695040888963407) % (1 << 64)
        return (self.state >> 33) % limit

    def one_of(self, choices):
        return choices[self.below(len(choices))]

    def mixed(self, told):
        left = list(told)
        found = []
        while left:
            found.append(left.pop(self.below(len(left))))
        return found


def any_line(row):
    kind, upper = row.one_of(KINDS), row.one_of(KINDS)
    thing, place = row.one_of(THINGS), row.one_of(THINGS)
    quality, number = row.one_of(QUALITIES), row.one_of(NUMBERS)
    negation = row.one_of(("", "not "))
    return row.one_of((
        f"{kind} is a kind.",
        f"{kind} is a kind of {upper}.",
        f"{kind} can be {quality}.",
        f"{kind} has a number {number}.",
        f"{thing} is a {kind}.",
        f"{thing} is {negation}{quality}.",
        f"every {kind} is {negation}{quality}.",
        f"usually every {kind} is {negation}{quality}.",
        f"the {number} of {thing} is {row.below(3) - 1}.",
        f"the {number} of every {kind} is usually {row.below(3) - 1}.",
        f"{thing} is in {place}.",
    ))


def any_text(row):
    """Lines that clash in many ways."""
    return [any_line(row) for number in range(1 + row.below(14))]


def world_text(row):
    """Lines that often make a world, on well founded ground."""
    return row.mixed(GROUND + [any_line(row) for number in range(row.below(5))])


def asked(told):
    """Clash, unfounded lines, whether it makes a world, the text and its one form."""
    found = run(lines(*told), CLASH, LACKING, MAKES, SHOWN, NORMAL)
    return found[1], found[2], found[3], bytes(found[4][1:]).decode(), found[5]


class Promises(unittest.TestCase):
    def texts(self):
        row = Row(7)
        return [any_text(row) for number in range(400)] + [world_text(row) for number in range(400)]

    def test_the_texts_show_many_ways_and_many_worlds(self):
        ways = {}
        worlds = 0
        for told in self.texts():
            found = asked(told)
            ways[found[0][1]] = ways.get(found[0][1], 0) + 1
            worlds += found[2][1]
        self.assertEqual(sorted(ways), [0, 2, 3, 4, 5, 6, 7, 8, 9, 10, 11, 12])
        self.assertGreater(worlds, 50)

    def test_1_the_order_makes_no_difference(self):
        row = Row(11)
        for told in self.texts():
            one = asked(told)
            mixed = row.mixed(told)
            two = asked(mixed)
            self.assertEqual(one[0][1] == 0, two[0][1] == 0, told)
            self.assertEqual(one[2], two[2], told)
            self.assertEqual(one[4], two[4], told)

    def test_2_the_lines_told_to_clash_do_so_by_themselves_and_no_fewer(self):
        for told in self.texts():
            found = asked(told)[0]
            if found[1] == 0:
                self.assertEqual(found, [0, 0])
                continue
            self.assertEqual(found[2:], sorted(set(found[2:])))
            alone = [told[number - 1] for number in found[2:]]
            self.assertNotEqual(asked(alone)[0], [0, 0], told)
            for place in range(len(alone)):
                self.assertEqual(asked(alone[:place] + alone[place + 1:])[0], [0, 0], told)

    def test_4_the_one_form_makes_the_same_world(self):
        tried = 0
        for told in self.texts():
            form = asked(told)[4]
            written = bytes(form[1:]).decode().split("\n")[:-1]
            if form != [-4] and len(written) <= 40:
                found = asked(written)
                self.assertEqual(found[0], [0, 0])
                self.assertEqual(found[1], [0])
                self.assertEqual(found[2], [0, 1])
                self.assertEqual(found[4], form)
                tried += 1
        self.assertGreater(tried, 50)

    def test_5_what_is_read_is_shown_as_it_was(self):
        for told in self.texts():
            self.assertEqual(asked(told)[3], page(told))

    def test_a_world_has_no_clash_and_nothing_lacking_and_a_one_form(self):
        for told in self.texts():
            found = asked(told)
            world = found[0] == [0, 0] and found[1] == [0]
            self.assertEqual(found[2], [0, 1] if world else [0, 0])
            self.assertEqual(found[4][0], 0 if world else -4)


if __name__ == "__main__":
    unittest.main()
