"""Names in calls: what is refused, and which refusal of several that are due."""

import unittest

from tests.helper import MAKES, SHOWN, as_bytes, chain, is_so, kind, last, lines, number, page, place, row, run, things

LARGEST = 1000000000000000000

WORLD = ("dog is a kind.", "dog can be big.", "dog has a number age.", "rex is a dog.", "abcdefghijkl is a kind of dog.",
         "bcdefghijklm is a abcdefghijkl.", "abcdefghijkl can be cdefghijklmn.",
         "abcdefghijkl has a number defghijklmno.")
NO_WORLD = WORLD + ("tom is a cat.",)

THING_CALLS = (9, 13)
KIND_CALLS = (10, 14)
ONE_NAME = THING_CALLS + KIND_CALLS
TWO_NAMES = (11, 12)

# Lists that are no names by their length or by a number that is no byte.
OUT_OF_RANGE = ([120] * 13, as_bytes("rex") + [32] * 10, [120] * 4010, [-1], [256], as_bytes("rex") + [-1],
                [256] + as_bytes("rex"), as_bytes("re") + [120 + 256], [LARGEST], [-LARGEST], [-1] * 4010, [256] * 13)

# Lists that could be names by their length and numbers, but are none in the text.
STRANGE = ([], [0], [255], [32], [10], [46], [63], [255] * 12, [0] * 12, as_bytes("tom"), as_bytes("re"), as_bytes("rexx"),
           as_bytes("Rex"), as_bytes("rex."), as_bytes("rex "), as_bytes(" rex"), as_bytes("rex\n"), as_bytes("r?x"),
           as_bytes("do"), as_bytes("dogs"), as_bytes("Dog"), as_bytes("dog."), as_bytes("bcdefghijkl"),
           as_bytes("xxxxxxxxxxxx"))

WORDS = ("is", "a", "kind", "of", "can", "be", "has", "number", "every", "usually", "not", "the", "in")


class OneName(unittest.TestCase):
    def test_no_name_by_its_length_or_its_numbers(self):
        for call in ONE_NAME:
            for numbers in OUT_OF_RANGE:
                self.assertEqual(last(lines(*WORLD), [call] + row(numbers)), [-1], (call, numbers[:13]))

    def test_no_such_name(self):
        for call in ONE_NAME:
            for numbers in STRANGE:
                self.assertEqual(last(lines(*WORLD), [call] + row(numbers)), [-5], (call, numbers))

    def test_a_word_of_the_language(self):
        for call in ONE_NAME:
            for word in WORDS:
                self.assertEqual(last(lines(*WORLD), [call] + row(as_bytes(word))), [-5], (call, word))

    def test_names_of_twelve_letters(self):
        self.assertEqual(last(lines(*WORLD), kind("bcdefghijklm")), [0] + as_bytes("abcdefghijkl"))
        self.assertEqual(last(lines(*WORLD), chain("abcdefghijkl")),
                         [0, 2, 12] + as_bytes("abcdefghijkl") + [3] + as_bytes("dog"))
        self.assertEqual(last(lines(*WORLD), place("bcdefghijklm")), [0, 0])
        self.assertEqual(last(lines(*WORLD), things("abcdefghijkl")), [0, 1, 12] + as_bytes("bcdefghijklm"))

    def test_in_the_empty_world(self):
        for call in ONE_NAME:
            self.assertEqual(last([call] + row(as_bytes("rex"))), [-5])
            self.assertEqual(last([call, 0]), [-5])
            self.assertEqual(last([call] + row([256])), [-1])


class TwoNames(unittest.TestCase):
    def test_the_first_name_out_of_range(self):
        for call, word in ((11, "big"), (12, "age")):
            for numbers in OUT_OF_RANGE:
                self.assertEqual(last(lines(*WORLD), [call] + row(numbers) + row(as_bytes(word))), [-1])

    def test_the_second_name_out_of_range(self):
        for call in TWO_NAMES:
            for numbers in OUT_OF_RANGE:
                self.assertEqual(last(lines(*WORLD), [call] + row(as_bytes("rex")) + row(numbers)), [-1])

    def test_no_such_thing(self):
        for call, word in ((11, "big"), (12, "age")):
            for numbers in STRANGE:
                self.assertEqual(last(lines(*WORLD), [call] + row(numbers) + row(as_bytes(word))), [-5], numbers)
            for wrong in WORDS + ("dog", "big", "age"):
                self.assertEqual(last(lines(*WORLD), [call] + row(as_bytes(wrong)) + row(as_bytes(word))), [-5], wrong)

    def test_what_its_kind_is_not_let(self):
        for call in TWO_NAMES:
            for numbers in STRANGE:
                self.assertEqual(last(lines(*WORLD), [call] + row(as_bytes("rex")) + row(numbers)), [-6], numbers)
            for word in WORDS + ("rex", "dog"):
                self.assertEqual(last(lines(*WORLD), [call] + row(as_bytes("rex")) + row(as_bytes(word))), [-6], word)

    def test_names_of_twelve_letters(self):
        self.assertEqual(last(lines(*WORLD), is_so("bcdefghijklm", "cdefghijklmn"))[:3], [0, 0, 4])
        self.assertEqual(last(lines(*WORLD), number("bcdefghijklm", "defghijklmno"))[:3], [0, 0, 4])

    def test_in_the_empty_world(self):
        for call in TWO_NAMES:
            self.assertEqual(last([call] + row(as_bytes("rex")) + row(as_bytes("big"))), [-5])
            self.assertEqual(last([call, 0, 0]), [-5])


class TheRefusalNearestToZero(unittest.TestCase):
    def test_1_with_4(self):
        for numbers in OUT_OF_RANGE:
            for call in ONE_NAME:
                self.assertEqual(last(lines(*NO_WORLD), [call] + row(numbers)), [-1])
            for call in TWO_NAMES:
                self.assertEqual(last(lines(*NO_WORLD), [call] + row(as_bytes("rex")) + row(numbers)), [-1])
                self.assertEqual(last(lines(*NO_WORLD), [call] + row(numbers) + row(as_bytes("big"))), [-1])

    def test_4_alone_and_with_5_and_6(self):
        for call in ONE_NAME:
            for name in ("rex", "dog", "tom", "cat", "nobody", "", "kind"):
                self.assertEqual(last(lines(*NO_WORLD), [call] + row(as_bytes(name))), [-4], name)
        for call in TWO_NAMES:
            for name in ("rex", "tom", "nobody", ""):
                for word in ("big", "age", "nothing", ""):
                    self.assertEqual(last(lines(*NO_WORLD), [call] + row(as_bytes(name)) + row(as_bytes(word))), [-4])

    def test_4_in_a_text_that_clashes(self):
        clashing = WORLD + ("rex is big.", "rex is not big.")
        for call in ONE_NAME:
            self.assertEqual(last(lines(*clashing), [call] + row(as_bytes("rex"))), [-4])
        for call in TWO_NAMES:
            self.assertEqual(last(lines(*clashing), [call] + row(as_bytes("rex")) + row(as_bytes("big"))), [-4])

    def test_5_with_6(self):
        for call in TWO_NAMES:
            for word in ("nothing", "", "kind", "rex"):
                self.assertEqual(last(lines(*WORLD), [call] + row(as_bytes("tom")) + row(as_bytes(word))), [-5])

    def test_1_in_the_second_name_with_5_for_the_first(self):
        for call in TWO_NAMES:
            for numbers in OUT_OF_RANGE:
                for name in ("tom", "dog", ""):
                    self.assertEqual(last(lines(*WORLD), [call] + row(as_bytes(name)) + row(numbers)), [-1])

    def test_1_in_both_names(self):
        for call in TWO_NAMES:
            self.assertEqual(last(lines(*WORLD), [call] + row([256]) + row([120] * 13)), [-1])


class NothingChanges(unittest.TestCase):
    def test_by_calls_with_names(self):
        calls = []
        for call in ONE_NAME:
            calls += [[call] + row(numbers) for numbers in ([256], [120] * 13, [], as_bytes("rex"), as_bytes("dog"))]
        for call in TWO_NAMES:
            calls += [[call] + row(as_bytes("rex")) + row(numbers)
                      for numbers in ([-1], [120] * 13, [], as_bytes("big"), as_bytes("age"))]
        for told, makes in ((WORLD, 1), (NO_WORLD, 0)):
            found = run(lines(*told), *calls, SHOWN, MAKES)
            self.assertEqual(found[-2], [0] + as_bytes(page(told)))
            self.assertEqual(found[-1], [0, makes])

    def test_a_refusal_stands_alone(self):
        for call in ONE_NAME:
            for numbers in STRANGE + OUT_OF_RANGE:
                self.assertEqual(len(last(lines(*WORLD), [call] + row(numbers))), 1)


if __name__ == "__main__":
    unittest.main()
