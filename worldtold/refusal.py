"""Refusals: when a call is refused, and by which number.

Each function asks first for the refusal that is nearest to 0, and answers 0 where none is due.
"""

from worldtold.lacking import has_kind, is_let, is_there, kind_of
from worldtold.sentence import LONGEST_NAME, text_of
from worldtold.told import Told
from worldtold.world import makes_world

MOST_LINES = 40
LONGEST_TEXT = 4000
LONGEST_SENTENCE = 100
LARGEST_BYTE = 255

OUT_OF_RANGE = -1
NO_SUCH_LINE = -2
NO_SENTENCE = -3
NO_WORLD = -4
NOT_THERE = -5
NOT_LET = -6
TEXT_FULL = -7


def are_bytes(row, longest):
    """Whether a list is no longer than told and holds bytes alone."""
    return len(row) <= longest and all([0 <= byte <= LARGEST_BYTE for byte in row])


def are_line_numbers(numbers):
    """Whether a list is no longer than a text may be and holds numbers that a line may have."""
    return len(numbers) <= MOST_LINES and all([1 <= number <= MOST_LINES for number in numbers])


def refusal_of_lines(lines, numbers):
    """The refusal due for the numbers of lines that are to be there."""
    if not are_line_numbers(numbers):
        return OUT_OF_RANGE
    if any([number > len(lines) for number in numbers]):
        return NO_SUCH_LINE
    return 0


def refusal_in_world(lines, rows, longest):
    """The refusal due for names or a text that are asked about in the world that the lines make."""
    if not all([are_bytes(row, longest) for row in rows]):
        return OUT_OF_RANGE
    if not makes_world(lines):
        return NO_WORLD
    return 0


def refusal_of_kind(lines, row):
    """The refusal due for a kind's name."""
    refusal = refusal_in_world(lines, [row], LONGEST_NAME)
    if refusal == 0 and not is_there(Told(lines), text_of(row)):
        return NOT_THERE
    return refusal


def refusal_of_thing(lines, row, others):
    """The refusal due for a thing's name, with other names beside it in the call."""
    refusal = refusal_in_world(lines, [row] + others, LONGEST_NAME)
    if refusal == 0 and not has_kind(Told(lines), text_of(row)):
        return NOT_THERE
    return refusal


def refusal_of_word(lines, row, word, letting):
    """The refusal due for a thing's name and the name of a quality (letting form 3) or a number (letting form 4)."""
    refusal = refusal_of_thing(lines, row, [word])
    if refusal < 0:
        return refusal
    told = Told(lines)
    if not is_let(told, letting, kind_of(told, text_of(row)), text_of(word)):
        return NOT_LET
    return 0
