"""What a text's lines tell: its lines by what they say, and going up from a kind or a thing."""

from worldtold.forms import OVER


class Told:
    """Lines, numbered from 1, with ways to find those that say something."""

    def __init__(self, lines):
        self.lines = []
        self.numbers = {}
        self.firsts = {}
        for line in lines:
            self.tell(line)

    def tell(self, line):
        """Put a line behind the others."""
        self.lines.append(line)
        number = len(self.lines)
        self.numbers.setdefault((line.form, line.about), []).append(number)
        self.firsts.setdefault((line.form, line.about, line.other), number)

    def line(self, number):
        return self.lines[number - 1]

    def all_about(self, form, name):
        """The numbers of all lines of a form about a kind or a thing."""
        return list(self.numbers.get((form, name), []))

    def first_about(self, form, name):
        """The number of the first line of a form about a kind or a thing, or 0."""
        return self.numbers.get((form, name), [0])[0]

    def first_saying(self, form, name, other):
        """The number of the first line of a form with both these names, or 0."""
        return self.firsts.get((form, name, other), 0)


def steps_up(told, form, name):
    """The lines by which one goes up from a kind (form 2) or a thing (form 11), in the order of the steps."""
    steps = []
    # A text that clashes may lead round in a ring: a name is gone on from once.
    seen = {}
    number = told.first_about(form, name)
    while number > 0 and name not in seen:
        seen[name] = True
        steps.append(number)
        name = told.line(number).other
        number = told.first_about(form, name)
    return steps


def steps_to(told, form, name, goal):
    """The lines by which one comes from a name up to another, none if one doesn't come there or is there."""
    if name == goal:
        return []
    steps = []
    for number in steps_up(told, form, name):
        steps.append(number)
        if told.line(number).other == goal:
            return steps
    return []


def names_above(told, form, name):
    """All to which one comes going up from a kind (form 2) or a thing (form 11)."""
    return [told.line(number).other for number in steps_up(told, form, name)]


def kinds_up(told, kind):
    """A kind and all to which one comes going up from it."""
    return [kind] + names_above(told, OVER, kind)


def nearest_saying(told, form, kinds, word):
    """The first line of a form that says a word of the first of these kinds of which one does, or 0."""
    for kind in kinds:
        number = told.first_saying(form, kind, word)
        if number > 0:
            return number
    return 0


def names_about(told, forms):
    """The names that lines of these forms are about, in order."""
    return sorted(set([line.about for line in told.lines if line.form in forms]))
