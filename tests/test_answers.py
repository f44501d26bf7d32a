"""A list of calls and the list of their answers."""

import unittest

import worldtold.desk
from tests.helper import CLASH, LACKING, MAKES, NORMAL, SHOWN, add, as_bytes, cut, lines, row, run, swap, text
from worldtold.desk import answers

EACH_CALL = (
    lines("dog is a kind.", "rex is a dog.", "dog can be big."),
    add("rex is big."),
    cut(2),
    swap(1, 2),
    CLASH,
    LACKING,
    MAKES,
    SHOWN,
    NORMAL,
    add("rex is a dog."),
    NORMAL,
    add("rex is not big."),
    CLASH,
)


def flat(calls):
    return [number for call in calls for number in call]


class Answers(unittest.TestCase):
    def test_how_many_numbers_stand_before_each_answer(self):
        kind = as_bytes("dog is a kind.\n")
        handed = flat([text("dog is a kind.\n"), SHOWN, cut(1), SHOWN, cut(1), CLASH])
        self.assertEqual(answers(handed), [3, 0, 0, 1] + [16, 0] + kind + [2, 0, 0, 1, 0, 1, -2, 2, 0, 0])

    def test_one_call(self):
        self.assertEqual(answers([4]), [2, 0, 0])
        self.assertEqual(answers([5]), [1, 0])
        self.assertEqual(answers([6]), [2, 0, 1])
        self.assertEqual(answers([7]), [1, 0])
        self.assertEqual(answers([8]), [1, 0])
        self.assertEqual(answers([0, 0]), [3, 0, 0, 0])
        self.assertEqual(answers([1, 0]), [1, -3])
        self.assertEqual(answers([2, 1]), [1, -2])
        self.assertEqual(answers([3, 1, 1]), [1, -2])

    def test_by_the_name_of_its_module(self):
        self.assertEqual(worldtold.desk.answers([6]), [2, 0, 1])
        self.assertEqual(worldtold.desk.answers(calls=[6]), [2, 0, 1])

    def test_calls_of_each_number(self):
        found = run(*EACH_CALL)
        form = as_bytes("dog is a kind.\ndog can be big.\nrex is a dog.\nrex is big.\n")
        told = as_bytes("dog can be big.\ndog is a kind.\nrex is big.\n")
        self.assertEqual(found, [[0, 0, 3], [0, 4], [0, 3], [0], [0, 0], [0, 3], [0, 0], [0] + told, [-4], [0, 4],
                                 [0] + form, [0, 5], [0, 5, 3, 5]])

    def test_what_was_handed_in_stays_as_it_was(self):
        handed = flat(EACH_CALL)
        before = list(handed)
        answers(handed)
        self.assertEqual(handed, before)

    def test_nothing_is_kept_from_one_time_to_the_next(self):
        handed = flat(EACH_CALL)
        first = answers(handed)
        self.assertEqual(answers([7]), [1, 0])
        self.assertEqual(answers(handed), first)

    def test_a_changed_answer_changes_no_later_one(self):
        handed = flat(EACH_CALL)
        first = answers(handed)
        kept = list(first)
        first.append(5)
        first[0] = 77
        self.assertEqual(answers(handed), kept)

    def test_sixty_calls(self):
        names = [letter + other for letter in "bcdf" for other in "bcdfghjklm"]
        calls = [add(name + " is a kind.") for name in names] + [add("x is a kind.")] * 2 + [cut(1)] * 18
        self.assertEqual(len(calls), 60)
        self.assertEqual(run(*calls), [[0, number] for number in range(1, 41)] + [[-7], [-7]]
                         + [[0, number] for number in range(39, 21, -1)])

    def test_sixty_times_a_large_text(self):
        names = [letter + other for letter in "bcdf" for other in "bcdfghjklm"][:39]
        chain = [f"{one} is a kind of {two}." for one, two in zip(names, names[1:])] + [f"{names[-1]} is a kind."]
        found = run(lines(*chain), *[NORMAL, CLASH, LACKING] * 19, MAKES, SHOWN)
        self.assertEqual(len(found), 60)
        self.assertEqual(found[-2], [0, 1])
        self.assertEqual(found[1:58], [found[-1], [0, 0], [0]] * 19)

    def test_lists_of_4010_numbers(self):
        found = run([0] + row([120] * 4010), [1] + row([120] * 4010), [0] + row([10] * 4010), [1] + row([-1] * 4010),
                    CLASH)
        self.assertEqual(found, [[-1], [-1], [-1], [-1], [0, 0]])

    def test_lists_of_numbers_that_look_like_calls(self):
        self.assertEqual(run([0] + row([7, 4, 0]), [1] + row([2, 1]), CLASH), [[0, 1, 1], [-3], [0, 0]])

    def test_all_are_whole_numbers(self):
        for number in answers(flat(EACH_CALL)):
            self.assertIs(type(number), int)


if __name__ == "__main__":
    unittest.main()
