"""A list of calls and the list of their answers."""

import unittest

import worldtold.desk
from tests.helper import (CLASH, LACKING, MAKES, NORMAL, SHOWN, add, alone, as_bytes, chain, cut, flat, is_so, kind, lines,
                          names, number, page, place, row, run, same, swap, text, things)
from worldtold.desk import answers

EACH_CALL = (
    lines("dog is a kind.", "rex is a dog.", "dog can be big."),
    add("rex is big."),
    cut(2),
    swap(1, 2),
    CLASH,
    LACKING,
    MAKES,
    SHOWN,
    NORMAL,
    add("rex is a dog."),
    NORMAL,
    add("rex is not big."),
    CLASH,
    kind("rex"),
    cut(5),
    kind("rex"),
    chain("dog"),
    is_so("rex", "big"),
    number("rex", "big"),
    add("dog has a number age."),
    number("rex", "age"),
    place("rex"),
    things("dog"),
    same("dog is a kind."),
    alone(2, 3),
)


class Fixed(list):
    """A list that can't be changed, not for a while either."""

    def refuse(self, *values):
        raise AssertionError("what was handed in is changed")

    append = extend = insert = pop = remove = clear = reverse = sort = refuse
    __setitem__ = __delitem__ = __iadd__ = __imul__ = refuse


class Answers(unittest.TestCase):
    def test_how_many_numbers_stand_before_each_answer(self):
        kind = as_bytes("dog is a kind.\n")
        handed = flat([text("dog is a kind.\n"), SHOWN, cut(1), SHOWN, cut(1), CLASH])
        self.assertEqual(answers(handed), [3, 0, 0, 1] + [16, 0] + kind + [2, 0, 0, 1, 0, 1, -2, 2, 0, 0])

    def test_one_call(self):
        self.assertEqual(answers([4]), [2, 0, 0])
        self.assertEqual(answers([5]), [1, 0])
        self.assertEqual(answers([6]), [2, 0, 1])
        self.assertEqual(answers([7]), [1, 0])
        self.assertEqual(answers([8]), [1, 0])
        self.assertEqual(answers([0, 0]), [3, 0, 0, 0])
        self.assertEqual(answers([1, 0]), [1, -3])
        self.assertEqual(answers([2, 1]), [1, -2])
        self.assertEqual(answers([3, 1, 1]), [1, -2])
        self.assertEqual(answers([9, 1, 120]), [1, -5])
        self.assertEqual(answers([10, 1, 120]), [1, -5])
        self.assertEqual(answers([11, 1, 120, 1, 121]), [1, -5])
        self.assertEqual(answers([12, 1, 120, 1, 121]), [1, -5])
        self.assertEqual(answers([13, 0]), [1, -5])
        self.assertEqual(answers([14, 0]), [1, -5])
        self.assertEqual(answers([15, 0]), [2, 0, 1])
        self.assertEqual(answers([16, 0]), [3, 0, 0, 1])
        self.assertEqual(answers([16, 2, 41, 1]), [1, -1])

    def test_by_the_name_of_its_module(self):
        self.assertEqual(worldtold.desk.answers([6]), [2, 0, 1])
        self.assertEqual(worldtold.desk.answers(calls=[6]), [2, 0, 1])

    def test_calls_of_each_number(self):
        found = run(*EACH_CALL)
        self.assertEqual(sorted(set([call[0] for call in EACH_CALL])), list(range(17)))
        form = as_bytes("dog is a kind.\ndog can be big.\nrex is a dog.\nrex is big.\n")
        told = as_bytes("dog can be big.\ndog is a kind.\nrex is big.\n")
        self.assertEqual(found, [[0, 0, 3], [0, 4], [0, 3], [0], [0, 0], [0, 3], [0, 0], [0] + told, [-4], [0, 4],
                                 [0] + form, [0, 5], [0, 5, 3, 5], [-4], [0, 4], [0] + as_bytes("dog"),
                                 [0] + names("dog"), [0, 1, 1, 1, 2, 3, 4], [-6], [0, 5], [0, 0, 4, 2, 4, 5], [0, 0],
                                 [0] + names("rex"), [0, 0], [0, 0, 0]])

    def test_several_texts_one_behind_another(self):
        one = ("dog is a kind.", "rex is a dog.")
        two = ("pet is a kind.", "cat is a kind of pet.", "tom is a cat.")
        asked = [kind("rex"), kind("tom"), chain("cat"), things("pet"), same(*one), same(*two), alone(1), SHOWN]
        found = run(lines(*one), *asked, lines(*two), *asked, text(""), *asked, lines(*one), *asked)
        first = [[0, 0, 2], [0] + as_bytes("dog"), [-5], [-5], [-5], [0, 1], [0, 0], [0, 0, 1], [0] + as_bytes(page(one))]
        second = [[0, 0, 3], [-5], [0] + as_bytes("cat"), [0] + names("cat", "pet"), [0] + names("tom"), [0, 0], [0, 1],
                  [0, 0, 1], [0] + as_bytes(page(two))]
        empty = [[0, 0, 0], [-5], [-5], [-5], [-5], [0, 0], [0, 0], [0, 0, 1], [0]]
        self.assertEqual(found, first + second + empty + first)

    def test_a_text_that_is_refused_leaves_the_one_before(self):
        kept = ("dog is a kind.", "rex is a dog.")
        found = run(lines(*kept), text("what"), [0] + row([256]), kind("rex"), SHOWN)
        self.assertEqual(found[1:], [[0, 1, 1], [-1], [0] + as_bytes("dog"), [0] + as_bytes(page(kept))])

    def test_sixty_calls_of_all_numbers(self):
        calls = [*EACH_CALL, *EACH_CALL, *EACH_CALL[:10]]
        self.assertEqual(len(calls), 60)
        found = run(*calls)
        self.assertEqual(found[:25], run(*EACH_CALL))
        self.assertEqual(found[25:50], found[:25])
        self.assertEqual(found[50:], found[:10])

    def test_sixty_questions_to_a_large_world(self):
        kinds = ["k" + letter for letter in "bcdfghjklmnp"]
        told = [f"{one} is a kind of {two}." for one, two in zip(kinds, kinds[1:])] + [f"{kinds[-1]} is a kind."]
        told += [f"t{letter} is a kb." for letter in "bcdfghjklmnpqrs"] + ["tb is in tc.", "kp can be big.", "kp can be old."]
        told += ["kp has a number age.", "usually every kp is big.", "every kd is old.", "the age of every kc is usually 3.",
                 "tc is in td.", "the age of tb is -3.", "tc is not big.", "td is in tf.", "tf is in tg.", "tg is in th."]
        self.assertEqual(len(told), 40)
        asked = [is_so("tb", "big"), is_so("tc", "big"), is_so("td", "old"), number("tb", "age"), number("tc", "age"),
                 place("tb"), things("kp"), chain("kb"), kind("ts")]
        found = run(lines(*told), *asked * 6, NORMAL, CLASH, LACKING, MAKES, alone(*range(1, 41)))
        self.assertEqual(len(found), 60)
        answered = [[0, 1, 3], [0, 0, 1], [0, 1, 2], [0, -3, 1], [0, 3, 3]]
        self.assertEqual([answer[:3] for answer in found[1:6]], answered)
        self.assertEqual(found[6:10], [[0] + names("tc", "td", "tf", "tg", "th"),
                                       [0] + names(*["t" + letter for letter in "bcdfghjklmnpqrs"]),
                                       [0] + names(*kinds), [0] + as_bytes("kb")])
        self.assertEqual(found[1:55], found[1:10] * 6)
        self.assertEqual(found[56:], [[0, 0], [0], [0, 1], [0, 0, 1]])

    def test_the_longest_list(self):
        largest = [15] + row([120] * 4000)
        calls = [largest, largest, [0] + row([120] * 4010), largest, [16] + row([1] * 900), MAKES]
        self.assertEqual(run(*calls), [[0, 2, 1], [0, 2, 1], [-1], [0, 2, 1], [-1], [0, 1]])

    def test_what_was_handed_in_stays_as_it_was(self):
        handed = flat(EACH_CALL)
        before = list(handed)
        answers(handed)
        self.assertEqual(handed, before)

    def test_what_was_handed_in_is_not_changed_for_a_while_either(self):
        self.assertEqual(answers(Fixed(flat(EACH_CALL))), answers(flat(EACH_CALL)))

    def test_nothing_is_kept_from_one_time_to_the_next(self):
        handed = flat(EACH_CALL)
        first = answers(handed)
        self.assertEqual(answers([7]), [1, 0])
        self.assertEqual(answers(handed), first)
        self.assertEqual(answers(handed), first)
        self.assertEqual(answers(kind("rex")), [1, -5])
        self.assertEqual(answers(same()), [2, 0, 1])

    def test_a_changed_answer_changes_no_later_one(self):
        handed = flat(EACH_CALL)
        first = answers(handed)
        kept = list(first)
        first.append(5)
        first[0] = 77
        self.assertEqual(answers(handed), kept)

    def test_sixty_calls(self):
        names = [letter + other for letter in "bcdf" for other in "bcdfghjklm"]
        calls = [add(name + " is a kind.") for name in names] + [add("x is a kind.")] * 2 + [cut(1)] * 18
        self.assertEqual(len(calls), 60)
        self.assertEqual(run(*calls), [[0, number] for number in range(1, 41)] + [[-7], [-7]]
                         + [[0, number] for number in range(39, 21, -1)])

    def test_sixty_times_a_large_text(self):
        names = [letter + other for letter in "bcdf" for other in "bcdfghjklm"][:39]
        chain = [f"{one} is a kind of {two}." for one, two in zip(names, names[1:])] + [f"{names[-1]} is a kind."]
        found = run(lines(*chain), *[NORMAL, CLASH, LACKING] * 19, MAKES, SHOWN)
        self.assertEqual(len(found), 60)
        self.assertEqual(found[-2], [0, 1])
        self.assertEqual(found[1:58], [found[-1], [0, 0], [0]] * 19)

    def test_lists_of_4010_numbers(self):
        found = run([0] + row([120] * 4010), [1] + row([120] * 4010), [0] + row([10] * 4010), [1] + row([-1] * 4010),
                    CLASH)
        self.assertEqual(found, [[-1], [-1], [-1], [-1], [0, 0]])
        for call in (9, 10, 13, 14, 15, 16):
            self.assertEqual(run([call] + row([1] * 4010), [call] + row([120] * 4010), CLASH), [[-1], [-1], [0, 0]])
        for call in (11, 12):
            self.assertEqual(run([call] + row([120] * 4010) * 2, CLASH), [[-1], [0, 0]])

    def test_lists_of_numbers_that_look_like_calls(self):
        self.assertEqual(run([0] + row([7, 4, 0]), [1] + row([2, 1]), CLASH), [[0, 1, 1], [-3], [0, 0]])
        self.assertEqual(run([11] + row([7, 7]) + row([8]), [9] + row([9, 1]), [16] + row([16, 16]), MAKES),
                         [[-5], [-5], [0, 0, 1], [0, 1]])

    def test_another_number_is_no_call(self):
        for wrong in (-1, 17, 100):
            with self.assertRaises(worldtold.desk.NoSuchCall):
                answers([6, wrong])

    def test_all_are_whole_numbers(self):
        for number in answers(flat(EACH_CALL)):
            self.assertIs(type(number), int)


if __name__ == "__main__":
    unittest.main()
