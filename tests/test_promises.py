"""The promises, tried on many texts that a fixed row of numbers makes."""

import unittest

from tests.helper import (CLASH, LACKING, MAKES, NORMAL, SHOWN, alone, is_so, lines, number, page, run, same, same_bytes,
                          swap)

KINDS = ("bee", "beetle", "cow", "doe")
THINGS = ("rex", "rexy", "tom", "box")
QUALITIES = ("big", "bigger")
NUMBERS = ("age", "size")
GROUND = ["bee is a kind.", "beetle is a kind.", "cow is a kind.", "doe is a kind.", "rex is a bee.", "rexy is a cow.",
          "tom is a beetle.", "box is a doe.", "doe can be big.", "doe can be bigger.", "doe has a number age.",
          "doe has a number size.", "bee is a kind of cow.", "cow is a kind of doe.", "beetle is a kind of doe."]


class Row:
    """A row of numbers that is the same each time."""

    def __init__(self, start):
        self.state = start

    def below(self, limit):
        self.state = (self.state * 6364136223846793005 + 1442695040888963407) % (1 << 64)
        return (self.state >> 33) % limit

    def one_of(self, choices):
        return choices[self.below(len(choices))]

    def mixed(self, told):
        left = list(told)
        found = []
        while left:
            found.append(left.pop(self.below(len(left))))
        return found


def any_line(row):
    kind, upper = row.one_of(KINDS), row.one_of(KINDS)
    thing, place = row.one_of(THINGS), row.one_of(THINGS)
    quality, number = row.one_of(QUALITIES), row.one_of(NUMBERS)
    negation = row.one_of(("", "not "))
    return row.one_of((
        f"{kind} is a kind.",
        f"{kind} is a kind of {upper}.",
        f"{kind} can be {quality}.",
        f"{kind} has a number {number}.",
        f"{thing} is a {kind}.",
        f"{thing} is {negation}{quality}.",
        f"every {kind} is {negation}{quality}.",
        f"usually every {kind} is {negation}{quality}.",
        f"the {number} of {thing} is {row.below(3) - 1}.",
        f"the {number} of every {kind} is usually {row.below(3) - 1}.",
        f"{thing} is in {place}.",
    ))


def any_text(row):
    """Lines that clash in many ways."""
    return [any_line(row) for time in range(1 + row.below(14))]


def world_text(row):
    """Lines that often make a world, on well founded ground."""
    return row.mixed(GROUND + [any_line(row) for time in range(row.below(5))])


def asked(told):
    """Clash, unfounded lines, whether it makes a world, the text and its one form."""
    found = run(lines(*told), CLASH, LACKING, MAKES, SHOWN, NORMAL)
    return found[1], found[2], found[3], bytes(found[4][1:]).decode(), found[5]


class Promises(unittest.TestCase):
    def texts(self):
        row = Row(7)
        return [any_text(row) for time in range(400)] + [world_text(row) for time in range(400)]

    def test_the_texts_show_many_ways_and_many_worlds(self):
        ways = {}
        worlds = 0
        for told in self.texts():
            found = asked(told)
            ways[found[0][1]] = ways.get(found[0][1], 0) + 1
            worlds += found[2][1]
        self.assertEqual(sorted(ways), [0, 2, 3, 4, 5, 6, 7, 8, 9, 10, 11, 12])
        self.assertGreater(worlds, 50)

    def test_1_the_order_makes_no_difference(self):
        row = Row(11)
        for told in self.texts():
            one = asked(told)
            mixed = row.mixed(told)
            two = asked(mixed)
            self.assertEqual(one[0][1] == 0, two[0][1] == 0, told)
            self.assertEqual(one[2], two[2], told)
            self.assertEqual(one[4], two[4], told)

    def test_2_the_lines_told_to_clash_do_so_by_themselves_and_no_fewer(self):
        for told in self.texts():
            found = asked(told)[0]
            if found[1] == 0:
                self.assertEqual(found, [0, 0])
                continue
            self.assertEqual(found[2:], sorted(set(found[2:])))
            chosen = [told[line - 1] for line in found[2:]]
            self.assertNotEqual(asked(chosen)[0], [0, 0], told)
            for place in range(len(chosen)):
                self.assertEqual(asked(chosen[:place] + chosen[place + 1:])[0], [0, 0], told)

    def test_4_the_one_form_makes_the_same_world(self):
        tried = 0
        for told in self.texts():
            form = asked(told)[4]
            written = bytes(form[1:]).decode().split("\n")[:-1]
            if form != [-4] and len(written) <= 40:
                found = asked(written)
                self.assertEqual(found[0], [0, 0])
                self.assertEqual(found[1], [0])
                self.assertEqual(found[2], [0, 1])
                self.assertEqual(found[4], form)
                tried += 1
        self.assertGreater(tried, 50)

    def test_5_what_is_read_is_shown_as_it_was(self):
        for told in self.texts():
            self.assertEqual(asked(told)[3], page(told))

    def test_a_world_has_no_clash_and_nothing_lacking_and_a_one_form(self):
        for told in self.texts():
            found = asked(told)
            world = found[0] == [0, 0] and found[1] == [0]
            self.assertEqual(found[2], [0, 1] if world else [0, 0])
            self.assertEqual(found[4][0], 0 if world else -4)


class PromisesByCalls(unittest.TestCase):
    """The promises once more, by the calls that ask about a kept text."""

    def texts(self):
        row = Row(23)
        return [any_text(row) for time in range(300)] + [world_text(row) for time in range(300)]

    def worlds(self):
        return [told for told in self.texts() if run(lines(*told), MAKES)[1] == [0, 1]]

    def test_there_are_worlds(self):
        self.assertGreater(len(self.worlds()), 50)

    def test_1_by_swap_normal_and_same(self):
        row = Row(5)
        for told in self.texts():
            swaps = [swap(1 + row.below(len(told)), 1 + row.below(len(told))) for time in range(10)]
            before = run(lines(*told), CLASH, MAKES, NORMAL)[1:]
            found = run(lines(*told), *swaps, CLASH, MAKES, NORMAL, same(*told))
            self.assertEqual(found[1:11], [[0]] * 10)
            self.assertEqual(found[11][1] == 0, before[0][1] == 0, told)
            self.assertEqual(found[12:14], before[1:], told)
            self.assertEqual(found[14], [0, 1] if before[1] == [0, 1] else [-4])

    def test_2_by_alone(self):
        ways = {}
        for told in self.texts():
            clash = run(lines(*told), CLASH)[1]
            if clash == [0, 0]:
                continue
            ways[clash[1]] = True
            left_out = [[line for line in clash[2:] if line != out] for out in clash[2:]]
            found = run(lines(*told), alone(*clash[2:]), *[alone(*left) for left in left_out])[1:]
            self.assertNotEqual(found[0][1], 0, told)
            self.assertEqual([answer[1] for answer in found[1:]], [0] * len(left_out), told)
        self.assertGreaterEqual(len(ways), 10)

    def check_reasons(self, told, asking):
        """Check the reasons of what is asked; answer how it is known, or the refusal."""
        found = run(lines(*told), asking)[1]
        if found[0] < 0:
            return found[0]
        self.assertEqual(found[3:], sorted(set(found[3:])))
        self.assertEqual(run(lines(*told), alone(*found[3:]))[1], [0, 0, 1], told)
        chosen = [told[line - 1] for line in found[3:]]
        self.assertEqual(run(lines(*chosen), asking)[1], found[:3] + list(range(1, len(chosen) + 1)), told)
        return found[2]

    def test_3_by_alone_and_is_and_number(self):
        for call, words, ways in ((is_so, QUALITIES, [-6, -5, 1, 2, 3, 4]), (number, NUMBERS, [-6, -5, 1, 3, 4])):
            hows = {}
            for told in self.worlds():
                for thing in THINGS:
                    for word in words:
                        hows[self.check_reasons(told, call(thing, word))] = True
            self.assertEqual(sorted(hows), ways)

    def test_4_by_normal_and_same(self):
        longer = 0
        for told in self.worlds():
            form = bytes(run(lines(*told), NORMAL)[1][1:]).decode()
            self.assertEqual(run(lines(*told), same_bytes(form))[1], [0, 1], told)
            longer += 1 if form.count("\n") > 40 else 0
            if form.count("\n") <= 40:
                self.assertEqual(run([0, len(form)] + list(form.encode()), same(*told))[1], [0, 1], told)
        self.assertGreater(longer, 10)

    def test_same_tells_worlds_apart_as_their_one_forms_do(self):
        worlds = self.worlds()
        forms = [run(lines(*told), NORMAL)[1] for told in worlds]
        for place in range(1, len(worlds)):
            answer = [0, 1 if forms[place - 1] == forms[place] else 0]
            self.assertEqual(run(lines(*worlds[place - 1]), same(*worlds[place]))[1], answer)

    def test_what_holds_is_what_the_one_form_says(self):
        for told in self.worlds()[:100]:
            form = bytes(run(lines(*told), NORMAL)[1][1:]).decode().split("\n")
            for thing in THINGS:
                for quality in QUALITIES:
                    found = run(lines(*told), is_so(thing, quality))[1]
                    self.assertEqual(f"{thing} is {quality}." in form, found[:2] == [0, 1])
                    self.assertEqual(f"{thing} is not {quality}." in form, found[:2] == [0, 0])
                for name in NUMBERS:
                    found = run(lines(*told), number(thing, name))[1]
                    said = [line for line in form if line.startswith(f"the {name} of {thing} is ")]
                    self.assertEqual(said, [f"the {name} of {thing} is {found[1]}."] if found[0] == 0 else [])


if __name__ == "__main__":
    unittest.main()
