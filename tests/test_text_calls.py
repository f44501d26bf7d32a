"""The calls that change the text: text, add, cut, swap."""

import unittest

from tests.helper import (SHOWN, add, alone, as_bytes, chain, cut, is_so, kind, lines, number, page, place, row, run,
                          same, same_bytes, shown, swap, text, things)

LARGEST = 1000000000000000000
KEPT = ("dog is a kind.", "cat is a kind.", "rex is a dog.")


def names(count):
    letters = "bcdefghijk"
    return [letters[number // 10] + letters[number % 10] + "x" for number in range(count)]


def kinds(count):
    return [name + " is a kind." for name in names(count)]


class Text(unittest.TestCase):
    def changes_nothing(self, call, answer):
        found = run(lines(*KEPT), call, SHOWN)
        self.assertEqual(found[1], answer)
        self.assertEqual(bytes(found[2][1:]).decode(), page(KEPT))

    def test_an_ordinary_text(self):
        self.assertEqual(run(lines(*KEPT)), [[0, 0, 3]])
        self.assertEqual(shown(lines(*KEPT)), page(KEPT))

    def test_the_text_is_empty_at_the_beginning(self):
        self.assertEqual(run(SHOWN), [[0]])

    def test_the_empty_text(self):
        self.assertEqual(run(text("")), [[0, 0, 0]])
        self.assertEqual(shown(lines(*KEPT), text("")), "")

    def test_a_text_takes_the_place_of_the_one_before(self):
        self.assertEqual(shown(lines(*KEPT), lines("pet is a kind.")), "pet is a kind.\n")

    def test_lines_stay_in_their_order_and_as_often_as_they_come(self):
        told = ("rex is a dog.", "dog is a kind.", "rex is a dog.", "rex is a dog.")
        self.assertEqual(run(lines(*told), SHOWN), [[0, 0, 4], [0] + as_bytes(page(told))])

    def test_without_a_line_end_behind_the_last_line(self):
        self.changes_nothing(text("dog is a kind."), [0, 1, 1])
        self.changes_nothing(text("dog is a kind.\ncat is a kind."), [0, 1, 2])
        self.changes_nothing(text("dog is a kind.\n "), [0, 1, 2])

    def test_empty_lines(self):
        self.changes_nothing(text("\n"), [0, 1, 1])
        self.changes_nothing(text("dog is a kind.\n\n"), [0, 1, 2])
        self.changes_nothing(text("\ndog is a kind.\n"), [0, 1, 1])
        self.changes_nothing(text("dog is a kind.\n\ncat is a kind.\n"), [0, 1, 2])

    def test_the_first_line_that_is_no_sentence(self):
        self.changes_nothing(lines("dog is a kind.", "cat is a kind.", "a is a kind.", "x", "rex is a dog."), [0, 1, 3])
        self.changes_nothing(lines("what", "dog is a kind."), [0, 1, 1])
        self.changes_nothing(text("dog is a kind.\nwhat\ncat is a kind."), [0, 1, 2])

    def test_forty_and_forty_one_lines(self):
        self.assertEqual(run(lines(*kinds(40))), [[0, 0, 40]])
        self.assertEqual(shown(lines(*kinds(40))), page(kinds(40)))
        self.changes_nothing(lines(*kinds(41)), [0, 2, 41])
        self.changes_nothing(lines(*kinds(100)), [0, 2, 100])

    def test_forty_one_lines_with_one_that_is_no_sentence(self):
        for place in (0, 20, 39, 40):
            told = kinds(41)
            told[place] = "dog is a kind"
            self.changes_nothing(lines(*told), [0, 1, place + 1])

    def test_forty_lines_and_more_behind_the_last_line_end(self):
        self.changes_nothing(text(page(kinds(40)) + "x is a kind."), [0, 1, 41])
        self.changes_nothing(text(page(kinds(60)) + "x is a kind."), [0, 1, 61])

    def test_4000_numbers_with_a_line_that_is_no_sentence(self):
        whole = page(["x is abc."] * 399) + "x is abcd."
        self.assertEqual(len(whole), 4000)
        self.changes_nothing(text(whole), [0, 1, 400])
        self.changes_nothing(text("x" * 4000), [0, 1, 1])
        self.changes_nothing(text("\n" * 4000), [0, 1, 1])

    def test_forty_of_the_longest_lines(self):
        longest = "the abcdefghijkl of every abcdefghijkl is usually -1000000000."
        self.assertEqual(run(lines(*[longest] * 40)), [[0, 0, 40]])
        self.assertEqual(shown(lines(*[longest] * 40)), page([longest] * 40))

    def test_4000_numbers_that_are_all_sentences(self):
        fitting = page(["x is abc."] * 400)
        self.assertEqual(len(fitting), 4000)
        self.changes_nothing(text(fitting), [0, 2, 400])

    def test_4001_numbers(self):
        self.changes_nothing(text(page(["x is abc."] * 399 + ["x is abcd."])), [-1])
        self.changes_nothing(text("x" * 4001), [-1])
        self.changes_nothing(text("x" * 4010), [-1])
        self.changes_nothing([0] + row([-5] * 4001), [-1])

    def test_numbers_that_are_no_bytes(self):
        whole = as_bytes(page(KEPT))
        for number in (-1, 256, 10 + 256, -246, LARGEST, -LARGEST):
            for place in (0, 5, len(whole)):
                self.changes_nothing([0] + row(whole[:place] + [number] + whole[place:]), [-1])
        self.changes_nothing([0] + row([-1]), [-1])
        self.changes_nothing([0] + row([256]), [-1])

    def test_the_least_and_the_largest_byte_are_let_but_no_sentence(self):
        self.changes_nothing([0] + row([0]), [0, 1, 1])
        self.changes_nothing([0] + row([255, 10]), [0, 1, 1])


class Add(unittest.TestCase):
    def test_numbers_of_added_lines(self):
        found = run(add("dog is a kind."), add("cat is a kind."), add("dog is a kind."), SHOWN)
        self.assertEqual(found[:3], [[0, 1], [0, 2], [0, 3]])
        self.assertEqual(bytes(found[3][1:]), b"dog is a kind.\ncat is a kind.\ndog is a kind.\n")

    def test_behind_a_text(self):
        self.assertEqual(run(lines(*KEPT), add("pet is a kind."))[1], [0, 4])
        self.assertEqual(shown(lines(*KEPT), add("pet is a kind.")), page(KEPT) + "pet is a kind.\n")

    def test_what_clashes_is_added_all_the_same(self):
        self.assertEqual(run(add("dog is a kind of dog.")), [[0, 1]])

    def refused(self, kept, call, answer):
        found = run(lines(*kept), call, SHOWN)
        self.assertEqual(found[1], answer)
        self.assertEqual(bytes(found[2][1:]).decode(), page(kept))

    def test_no_sentence(self):
        for words in ("", "dog", "dog is a kind", "dog is a kind.\n", "x" * 100):
            self.refused(KEPT, add(words), [-3])

    def test_a_sentence_of_100_and_of_101_bytes(self):
        self.refused(KEPT, add("x" * 99 + "."), [-3])
        self.refused(KEPT, add("x" * 100 + "."), [-1])
        self.refused(KEPT, add("dog is a kind." + " " * 87), [-1])
        self.refused(KEPT, [1] + row([32] * 4010), [-1])

    def test_numbers_that_are_no_bytes(self):
        for number in (-1, 256, LARGEST, -LARGEST):
            self.refused(KEPT, [1] + row([number]), [-1])
            self.refused(KEPT, [1] + row(as_bytes("dog is a kind.") + [number]), [-1])
            self.refused(KEPT, [1] + row([number] + as_bytes("dog is a kind.")), [-1])
        self.refused(KEPT, [1] + row([0]), [-3])
        self.refused(KEPT, [1] + row([255]), [-3])

    def test_forty_lines(self):
        full = kinds(40)
        self.assertEqual(run(lines(*full[:39]), add(full[39]))[1], [0, 40])
        self.refused(full, add("pet is a kind."), [-7])

    def test_the_refusal_nearest_to_zero(self):
        full = kinds(40)
        self.refused(full, add("pet is a kind"), [-3])
        self.refused(full, add("x" * 101), [-1])
        self.refused(full, [1] + row([256]), [-1])
        self.refused(full, [1] + row(as_bytes("pet is a kind.") + [-1]), [-1])

    def test_after_a_cut_there_is_room_again(self):
        found = run(lines(*kinds(40)), add("pet is a kind."), cut(7), add("pet is a kind."))
        self.assertEqual(found[1:], [[-7], [0, 39], [0, 40]])


class Cut(unittest.TestCase):
    def refused(self, kept, n, answer):
        found = run(lines(*kept), cut(n), SHOWN)
        self.assertEqual(found[1], answer)
        self.assertEqual(bytes(found[2][1:]).decode(), page(kept))

    def test_each_line(self):
        for n in (1, 2, 3):
            found = run(lines(*KEPT), cut(n), SHOWN)
            self.assertEqual(found[1], [0, 2])
            left = [line for number, line in enumerate(KEPT, start=1) if number != n]
            self.assertEqual(bytes(found[2][1:]).decode(), page(left))

    def test_lines_behind_it_are_numbered_one_less(self):
        self.assertEqual(shown(lines(*KEPT), cut(1), cut(1)), "rex is a dog.\n")
        self.assertEqual(run(lines(*KEPT), cut(1), cut(1), cut(1), SHOWN)[1:], [[0, 2], [0, 1], [0, 0], [0]])

    def test_one_of_equal_lines(self):
        self.assertEqual(shown(lines("dog is a kind.", "cat is a kind.", "dog is a kind."), cut(3)),
                         "dog is a kind.\ncat is a kind.\n")

    def test_line_40(self):
        full = kinds(40)
        self.assertEqual(run(lines(*full), cut(40))[1], [0, 39])
        self.assertEqual(shown(lines(*full), cut(40)), page(full[:39]))

    def test_no_such_line(self):
        self.refused(KEPT, 4, [-2])
        self.refused(KEPT, 40, [-2])
        self.refused((), 1, [-2])
        self.refused(kinds(39), 40, [-2])

    def test_out_of_range(self):
        for n in (0, 41, -1, LARGEST, -LARGEST):
            self.refused(KEPT, n, [-1])
            self.refused((), n, [-1])
            self.refused(kinds(40), n, [-1])


class Swap(unittest.TestCase):
    def refused(self, kept, n, m, answer):
        found = run(lines(*kept), swap(n, m), SHOWN)
        self.assertEqual(found[1], answer)
        self.assertEqual(bytes(found[2][1:]).decode(), page(kept))

    def test_two_lines(self):
        for n in (1, 2, 3):
            for m in (1, 2, 3):
                told = list(KEPT)
                told[n - 1], told[m - 1] = told[m - 1], told[n - 1]
                found = run(lines(*KEPT), swap(n, m), SHOWN)
                self.assertEqual(found[1], [0])
                self.assertEqual(bytes(found[2][1:]).decode(), page(told))

    def test_the_first_and_the_last_of_forty(self):
        full = kinds(40)
        self.assertEqual(shown(lines(*full), swap(40, 1)), page([full[39]] + full[1:39] + [full[0]]))

    def test_no_such_line(self):
        for n, m in ((1, 4), (4, 1), (4, 4), (40, 3), (3, 40)):
            self.refused(KEPT, n, m, [-2])
        self.refused((), 1, 1, [-2])

    def test_out_of_range(self):
        for wrong in (0, 41, -1, LARGEST, -LARGEST):
            self.refused(KEPT, wrong, 1, [-1])
            self.refused(KEPT, 1, wrong, [-1])
            self.refused(KEPT, wrong, wrong, [-1])
            self.refused(kinds(40), 40, wrong, [-1])

    def test_the_refusal_nearest_to_zero(self):
        for wrong in (0, 41, LARGEST, -LARGEST):
            self.refused(KEPT, 40, wrong, [-1])
            self.refused(KEPT, wrong, 40, [-1])
            self.refused((), wrong, 1, [-1])


class RefusedCallsChangeNothing(unittest.TestCase):
    def test_one_behind_another(self):
        refused = (cut(0), cut(4), swap(1, 4), swap(1, 0), add("dog"), add("x" * 101), [1] + row([256]),
                   [0] + row([-1]), text("x" * 4001), text("dog"), lines(*kinds(41)), [8], kind("rex"), chain("cat"),
                   is_so("rex", "big"), number("rex", "age"), place("rex"), things("cat"), same("dog is a kind."),
                   alone(41), kind("x" * 13), same_bytes("x" * 4001), [14] + row([-1]))
        found = run(lines("dog is a kind.", "rex is a cat."), *refused, SHOWN, cut(2), [6])
        self.assertEqual([answer[0] for answer in found[1:10]], [-1, -2, -2, -1, -3, -1, -1, -1, -1])
        self.assertEqual(found[10:13], [[0, 1, 1], [0, 2, 41], [-4]])
        self.assertEqual(found[13:24], [[-4]] * 7 + [[-1]] * 4)
        self.assertEqual(bytes(found[24][1:]), b"dog is a kind.\nrex is a cat.\n")
        self.assertEqual(found[25:], [[0, 1], [0, 1]])

    def test_in_a_world(self):
        kept = ("dog is a kind.", "dog can be big.", "rex is a dog.")
        refused = (kind("dog"), chain("rex"), is_so("dog", "big"), is_so("rex", "old"), number("rex", "age"),
                   place("tom"), things("tom"), alone(0), same_bytes("x" * 4001))
        found = run(lines(*kept), [8], *refused, SHOWN, [8])
        self.assertEqual(found[2:11], [[-5], [-5], [-5], [-6], [-6], [-5], [-5], [-1], [-1]])
        self.assertEqual(bytes(found[11][1:]).decode(), page(kept))
        self.assertEqual(found[12], found[1])


if __name__ == "__main__":
    unittest.main()
