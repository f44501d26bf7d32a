"""Sentences: what is one, and that it is shown as it was read."""

import unittest

from tests.helper import SHOWN, add, as_bytes, last, lines, row, run, shown, text

FORMS = (
    "dog is a kind.",
    "dog is a kind of pet.",
    "dog can be big.",
    "dog has a number age.",
    "rex is a dog.",
    "rex is big.",
    "rex is not big.",
    "every dog is big.",
    "every dog is not big.",
    "usually every dog is big.",
    "usually every dog is not big.",
    "the age of rex is 7.",
    "the age of every dog is usually 12.",
    "rex is in box.",
)

WORDS = ("is", "a", "kind", "of", "can", "be", "has", "number", "every", "usually", "not", "the", "in")

# Each place of a name, in each form.
SLOTS = (
    "{} is a kind.",
    "{} is a kind of pet.",
    "dog is a kind of {}.",
    "{} can be big.",
    "dog can be {}.",
    "{} has a number age.",
    "dog has a number {}.",
    "{} is a dog.",
    "rex is a {}.",
    "{} is big.",
    "rex is {}.",
    "{} is not big.",
    "rex is not {}.",
    "every {} is big.",
    "every dog is {}.",
    "every {} is not big.",
    "every dog is not {}.",
    "usually every {} is big.",
    "usually every dog is {}.",
    "usually every {} is not big.",
    "usually every dog is not {}.",
    "the {} of rex is 7.",
    "the age of {} is 7.",
    "the {} of every dog is usually 12.",
    "the age of every {} is usually 12.",
    "{} is in box.",
    "rex is in {}.",
)

NUMBER_SLOTS = ("the age of rex is {}.", "the age of every dog is usually {}.")


class SentencesThatAre(unittest.TestCase):
    def check(self, sentence):
        self.assertEqual(run(add(sentence)), [[0, 1]], sentence)
        self.assertEqual(shown(add(sentence)), sentence + "\n")
        self.assertEqual(run(lines(sentence)), [[0, 0, 1]], sentence)
        self.assertEqual(shown(lines(sentence)), sentence + "\n")

    def test_each_form(self):
        for sentence in FORMS:
            self.check(sentence)

    def test_all_forms_in_one_text(self):
        self.assertEqual(shown(lines(*FORMS)), "".join([line + "\n" for line in FORMS]))

    def test_names_of_one_and_of_twelve_letters(self):
        for slot in SLOTS:
            for name in ("b", "z", "abcdefghijkl", "mnopqrstuvwx", "yzyzyzyzyzyz"):
                self.check(slot.format(name))

    def test_names_that_hold_a_word(self):
        for name in ("isa", "kinds", "aa", "ina", "nota", "them", "numbers", "everyone"):
            for slot in SLOTS:
                self.check(slot.format(name))

    def test_numbers(self):
        for number in (0, 1, -1, 9, 10, -10, 105, 999999999, 1000000000, -999999999, -1000000000):
            for slot in NUMBER_SLOTS:
                self.check(slot.format(number))

    def test_one_name_twice_is_still_a_sentence(self):
        for sentence in ("dog is a kind of dog.", "dog can be dog.", "rex is in rex.", "rex is a rex.", "rex is rex."):
            self.check(sentence)


class SentencesThatAreNot(unittest.TestCase):
    def refused(self, sentence):
        self.assertEqual(run(add(sentence), SHOWN), [[-3], [0]], sentence)
        self.assertEqual(run(text(sentence + "\n"), SHOWN), [[0, 1, 1], [0]], sentence)

    def test_the_words_of_the_language_are_no_names(self):
        for word in WORDS:
            for slot in SLOTS:
                # "rex is a kind." is a sentence of another form.
                if slot.format(word) != "rex is a kind.":
                    self.refused(slot.format(word))

    def test_a_word_for_a_name_makes_another_form(self):
        self.assertEqual(shown(lines("rex is a kind.")), "rex is a kind.\n")

    def test_names_of_no_and_of_thirteen_letters(self):
        for slot in SLOTS:
            self.refused(slot.format(""))
            self.refused(slot.format("abcdefghijklm"))

    def test_names_of_other_signs(self):
        for slot in SLOTS:
            for name in ("Dog", "doG", "d0g", "7", "-", "do-g", "d.g", "do_g", "d\xe4g", "d?g", "d\x00g", "d`g", "d{g"):
                self.refused(slot.format(name))

    def test_capital_letters_in_words(self):
        for sentence in ("dog Is a kind.", "dog is A kind.", "Every dog is big.", "The age of rex is 7."):
            self.refused(sentence)

    def test_blanks(self):
        for sentence in FORMS:
            self.refused(" " + sentence)
            self.refused(sentence + " ")
            self.refused(sentence[:-1] + " .")
            self.refused(sentence.replace(" ", "\t"))
            for place in range(len(sentence)):
                if sentence[place] == " ":
                    self.refused(sentence[:place] + " " + sentence[place:])

    def test_full_stops(self):
        for sentence in FORMS:
            self.refused(sentence[:-1])
            self.refused(sentence + ".")
            self.refused(sentence[:-1] + "!")
            self.refused("." + sentence)
            self.refused(sentence + " " + sentence)

    def test_words_too_many_and_too_few(self):
        for sentence in FORMS:
            words = sentence[:-1].split(" ")
            self.refused(" ".join(words + ["dog"]) + ".")
            self.refused(" ".join(["dog"] + words) + ".")
        for sentence in ("dog.", "dog is.", "is.", "dog is a.", "dog is not.", "every dog.", "usually dog is big.",
                         "the age of rex.", "the age of rex is.", "the age of rex is usually 7.",
                         "the age of every dog is 7.", "every dog is a pet.", "every dog is in box.",
                         "dog can be not big.", "dog can not be big.", "dog has number age.", "rex is not a dog.",
                         "rex is not in box.", "dog is kind.", "usually rex is big."):
            self.refused(sentence)

    def test_numbers_that_are_none(self):
        for number in ("", "-", "00", "01", "007", "-0", "-01", "--1", "+1", "1.0", "1e3", "1-", "x", "seven", "1 0",
                       "1000000001", "-1000000001", "9999999999", "10000000000", "1" + "0" * 60, "0" * 11,
                       "\xb2", "0x1", "1_0"):
            for slot in NUMBER_SLOTS:
                self.refused(slot.format(number))

    def test_a_very_long_row_of_digits(self):
        sentence = "the age of rex is " + "9" * 3900 + ".\n"
        self.assertEqual(run(text(sentence)), [[0, 1, 1]])

    def test_nothing_and_signs_alone(self):
        for sentence in ("", ".", " ", " .", "..", "?", "\x00", "\xff", "\r"):
            self.refused(sentence)

    def test_a_line_end_inside_an_added_sentence(self):
        for sentence in ("dog is a kind.\n", "\ndog is a kind.", "dog is\na kind.", "\n",
                         "dog is a kind.\ndog can be big."):
            self.assertEqual(run(add(sentence), SHOWN), [[-3], [0]])

    def test_a_carriage_return_is_no_part_of_a_line(self):
        self.assertEqual(run(text("dog is a kind.\r\n")), [[0, 1, 1]])

    def test_every_byte_in_the_place_of_a_letter(self):
        for byte in range(256):
            numbers = as_bytes("d") + [byte] + as_bytes("g is a kind.")
            fit = 97 <= byte <= 122
            self.assertEqual(last([1] + row(numbers)), [0, 1] if fit else [-3])


if __name__ == "__main__":
    unittest.main()
