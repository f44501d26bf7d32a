"""Things that are torn by definite words about a quality."""

from worldtold.forms import EVERY, IS, IS_A, OVER
from worldtold.told import Told, kinds_up, steps_to


def each_once(names):
    """The names in the order in which they come first."""
    seen = {}
    for name in names:
        seen[name] = True
    return list(seen)


def definite_words(told, thing, kind):
    """By quality the numbers of the lines that are definite words about a thing, in their order."""
    numbers = told.all_about(IS, thing)
    for upper in kinds_up(told, kind):
        numbers.extend(told.all_about(EVERY, upper))
    words = {}
    for number in numbers:
        words.setdefault(told.line(number).other, []).append(number)
    return words


def first_contrary(told, words):
    """The first word that says the contrary of an earlier one, or 0.

    As a word says yes or no, all ahead of that word agree: the first of them is the first contrary one.
    """
    for number in words:
        if told.line(number).said != told.line(words[0]).said:
            return number
    return 0


def tear_of(told):
    """The lines that tear a thing, by rising numbers; none if no thing is torn.

    It is asked of lines that clash in no other way.
    """
    things = each_once([line.about for line in told.lines if line.form == IS_A])
    qualities = each_once([line.other for line in told.lines if line.form in (IS, EVERY)])
    for thing in things:
        home = told.first_about(IS_A, thing)
        kind = told.line(home).other
        words = definite_words(told, thing, kind)
        for quality in qualities:
            number = first_contrary(told, words.get(quality, []))
            if number > 0:
                # The later word speaks of the farther kind, as the words are ordered going up.
                steps = steps_to(told, OVER, kind, told.line(number).about)
                return sorted([home, words[quality][0], number] + steps)
    return []


def are_torn(lines):
    return len(tear_of(Told(lines))) > 0


def first_tear(lines):
    """The lines that tear a thing, as they do at the first line with which one is torn; none if no thing is torn."""
    if not are_torn(lines):
        return []
    # A thing that is torn stays so with more lines behind: the first torn beginning is sought by halves.
    whole = 0
    torn = len(lines)
    while torn - whole > 1:
        middle = (whole + torn) // 2
        if are_torn(lines[:middle]):
            torn = middle
        else:
            whole = middle
    return tear_of(Told(lines[:torn]))
