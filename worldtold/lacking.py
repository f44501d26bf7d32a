"""What is lacking: the lines of a text that nothing founds."""

from worldtold.forms import CAN_BE, HAS, IN, IS, IS_A, KIND, NUMBER, OVER
from worldtold.told import Told, kinds_up, nearest_saying

# By form the form of the lines that let a kind have what is said: 3 for qualities, 4 for numbers.
LETTING = {6: 3, 7: 3, 8: 3, 9: 4, 10: 4}


def is_there(told, kind):
    return told.first_about(KIND, kind) > 0 or told.first_about(OVER, kind) > 0


def is_let(told, letting, kind, word):
    """Whether a kind can be a quality (form 3) or has a number (form 4)."""
    return nearest_saying(told, letting, kinds_up(told, kind), word) > 0


def has_kind(told, thing):
    return told.first_about(IS_A, thing) > 0


def kind_of(told, thing):
    """The kind of a thing that has one."""
    return told.line(told.first_about(IS_A, thing)).other


def is_founded(told, line):
    if line.form == KIND:
        return True
    if line.form in (OVER, IS_A):
        return is_there(told, line.other)
    if line.form in (CAN_BE, HAS):
        return is_there(told, line.about)
    if line.form == IN:
        return has_kind(told, line.about) and has_kind(told, line.other)
    letting = LETTING[line.form]
    if line.form in (IS, NUMBER):
        return has_kind(told, line.about) and is_let(told, letting, kind_of(told, line.about), line.other)
    return is_there(told, line.about) and is_let(told, letting, line.about, line.other)


def unfounded_lines(lines):
    """The numbers of the unfounded lines of a text."""
    told = Told(lines)
    return [number for number, line in enumerate(lines, start=1) if not is_founded(told, line)]
