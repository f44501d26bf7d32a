"""The desk: a text that calls change and ask about, and the calls in a list of numbers."""

from worldtold.clash import clash_of
from worldtold.lacking import unfounded_lines
from worldtold.page import bytes_of, read_page
from worldtold.sentence import read_sentence
from worldtold.world import makes_world, one_form

MOST_LINES = 40
LONGEST_TEXT = 4000
LONGEST_SENTENCE = 100
LARGEST_BYTE = 255

OUT_OF_RANGE = -1
NO_SUCH_LINE = -2
NO_SENTENCE = -3
NO_WORLD = -4
TEXT_FULL = -7


class NoSuchCall(ValueError):
    """A call's number that the desk doesn't know."""


def are_bytes(row, longest):
    """Whether a list is no longer than told and holds bytes alone."""
    return len(row) <= longest and all([0 <= byte <= LARGEST_BYTE for byte in row])


class Desk:
    """The kept text. Each call's answer is a list: 0 and what is told, or a refusal alone."""

    def __init__(self):
        self.lines = []

    def refusal_of_lines(self, numbers):
        """The refusal that is due for numbers of lines, or 0. The one nearest to 0 is asked first."""
        if any([number < 1 or number > MOST_LINES for number in numbers]):
            return OUT_OF_RANGE
        if any([number > len(self.lines) for number in numbers]):
            return NO_SUCH_LINE
        return 0

    def text(self, row):
        if not are_bytes(row, LONGEST_TEXT):
            return [OUT_OF_RANGE]
        lines = read_page(row)
        if None in lines:
            return [0, 1, lines.index(None) + 1]
        if len(lines) > MOST_LINES:
            return [0, 2, len(lines)]
        self.lines = lines
        return [0, 0, len(lines)]

    def add(self, row):
        if not are_bytes(row, LONGEST_SENTENCE):
            return [OUT_OF_RANGE]
        line = read_sentence(row)
        if line is None:
            return [NO_SENTENCE]
        if len(self.lines) >= MOST_LINES:
            return [TEXT_FULL]
        self.lines.append(line)
        return [0, len(self.lines)]

    def cut(self, number):
        refusal = self.refusal_of_lines([number])
        if refusal < 0:
            return [refusal]
        self.lines.pop(number - 1)
        return [0, len(self.lines)]

    def swap(self, one, two):
        refusal = self.refusal_of_lines([one, two])
        if refusal < 0:
            return [refusal]
        line = self.lines[one - 1]
        self.lines[one - 1] = self.lines[two - 1]
        self.lines[two - 1] = line
        return [0]

    def clash(self):
        clash = clash_of(self.lines)
        return [0] + clash if len(clash) > 0 else [0, 0]

    def lacking(self):
        return [0] + unfounded_lines(self.lines)

    def makes(self):
        return [0, 1 if makes_world(self.lines) else 0]

    def shown(self):
        return [0] + bytes_of(self.lines)

    def normal(self):
        if not makes_world(self.lines):
            return [NO_WORLD]
        return [0] + bytes_of(one_form(self.lines))


class Tape:
    """The numbers that were handed in, taken one behind another."""

    def __init__(self, numbers):
        self.numbers = numbers
        self.place = 0

    def at_end(self):
        return self.place >= len(self.numbers)

    def take_one(self):
        self.place = self.place + 1
        return self.numbers[self.place - 1]

    def take_row(self):
        """A list with how many numbers it has before it."""
        size = self.take_one()
        start = self.place
        self.place = start + size
        return self.numbers[start:start + size]


def answer_with_numbers(desk, call, tape):
    """The answer to a call that has numbers or lists behind its own number."""
    if call == 0:
        return desk.text(tape.take_row())
    if call == 1:
        return desk.add(tape.take_row())
    if call == 2:
        return desk.cut(tape.take_one())
    if call == 3:
        one = tape.take_one()
        two = tape.take_one()
        return desk.swap(one, two)
    raise NoSuchCall(f"no call has the number {call}")


def answer(desk, call, tape):
    """The answer to a call."""
    if call == 4:
        return desk.clash()
    if call == 5:
        return desk.lacking()
    if call == 6:
        return desk.makes()
    if call == 7:
        return desk.shown()
    if call == 8:
        return desk.normal()
    return answer_with_numbers(desk, call, tape)


def answers(calls):
    """Carry out the calls on a new desk; for each, how many numbers are answered, and these."""
    desk = Desk()
    tape = Tape(calls)
    told = []
    while not tape.at_end():
        found = answer(desk, tape.take_one(), tape)
        told.append(len(found))
        told.extend(found)
    return told
