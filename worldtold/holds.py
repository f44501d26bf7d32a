"""What holds of the things of a world, how it is known, and the reasons."""

from worldtold.forms import IS_A, KIND, OVER
from worldtold.lacking import kind_of
from worldtold.told import kinds_up, nearest_saying, steps_up

TOLD = 1
NOT_SAID = 4

# By the form that lets a thing have it (3 a quality, 4 a number): the form of the lines that tell it of the thing
# itself, and those that say it of its kinds, each with how it is known by them, the stronger first.
TELLING = {3: 6, 4: 9}
SAYING = {3: ((7, 2), (8, 3)), 4: ((10, 3),)}


class Held:
    """What holds (1 or 0 of a quality, else the number), how, and the number of the line that says it, or 0."""

    def __init__(self, said, how, source):
        self.said = said
        self.how = how
        self.source = source


def held_by(told, how, number):
    return Held(told.line(number).said, how, number)


def held(told, thing, kinds, letting, word):
    """What holds of a quality (letting form 3) or a number (letting form 4) of a thing.

    The kinds are the thing's kind and those above it.
    """
    number = told.first_saying(TELLING[letting], thing, word)
    if number > 0:
        return held_by(told, TOLD, number)
    for form, how in SAYING[letting]:
        number = nearest_saying(told, form, kinds, word)
        if number > 0:
            return held_by(told, how, number)
    return Held(0, NOT_SAID, 0)


def kinds_from(told, kind, found):
    """The kinds going up from the one that the saying line speaks of, or from the thing's own if it speaks of none."""
    if found.how in (TOLD, NOT_SAID):
        return kinds_up(told, kind)
    return kinds_up(told, told.line(found.source).about)


def reasons(told, thing, letting, word, found):
    """The lines, by rising numbers, by which it is known what holds."""
    kind = kind_of(told, thing)
    numbers = steps_up(told, OVER, kind)
    numbers.append(told.first_about(IS_A, thing))
    numbers.append(nearest_saying(told, letting, kinds_from(told, kind, found), word))
    numbers.append(told.first_about(KIND, kinds_up(told, kind)[-1]))
    if found.source > 0:
        numbers.append(found.source)
    return sorted(set(numbers))
