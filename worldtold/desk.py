"""The desk: a text that calls change and ask about, and the calls in a list of numbers."""

from worldtold.asked import chain_answer, held_answer, kind_answer, place_answer, things_answer
from worldtold.clash import clash_of
from worldtold.forms import CAN_BE, HAS
from worldtold.lacking import unfounded_lines
from worldtold.page import bytes_of, read_page
from worldtold.refusal import LONGEST_SENTENCE, LONGEST_TEXT, MOST_LINES
from worldtold.refusal import NO_SENTENCE, NO_WORLD, OUT_OF_RANGE, TEXT_FULL
from worldtold.refusal import are_bytes, are_line_numbers, refusal_in_world, refusal_of_lines
from worldtold.sentence import read_sentence
from worldtold.tape import Tape
from worldtold.world import makes_world, one_form

# The calls by what is handed in with them.
BARE_CALLS = (4, 5, 6, 7, 8)
ROW_CALLS = (0, 1, 9, 10, 13, 14, 15, 16)


class NoSuchCall(ValueError):
    """A call's number that the desk doesn't know."""


class Desk:
    """The kept text. Each call's answer is a list: 0 and what is told, or a refusal alone."""

    def __init__(self):
        self.lines = []

    def text(self, row):
        if not are_bytes(row, LONGEST_TEXT):
            return [OUT_OF_RANGE]
        lines = read_page(row)
        if None in lines:
            return [0, 1, lines.index(None) + 1]
        if len(lines) > MOST_LINES:
            return [0, 2, len(lines)]
        self.lines = lines
        return [0, 0, len(lines)]

    def add(self, row):
        if not are_bytes(row, LONGEST_SENTENCE):
            return [OUT_OF_RANGE]
        line = read_sentence(row)
        if line is None:
            return [NO_SENTENCE]
        if len(self.lines) >= MOST_LINES:
            return [TEXT_FULL]
        self.lines.append(line)
        return [0, len(self.lines)]

    def cut(self, number):
        refusal = refusal_of_lines(self.lines, [number])
        if refusal < 0:
            return [refusal]
        self.lines.pop(number - 1)
        return [0, len(self.lines)]

    def swap(self, one, two):
        refusal = refusal_of_lines(self.lines, [one, two])
        if refusal < 0:
            return [refusal]
        line = self.lines[one - 1]
        self.lines[one - 1] = self.lines[two - 1]
        self.lines[two - 1] = line
        return [0]

    def clash(self):
        clash = clash_of(self.lines)
        return [0] + clash if len(clash) > 0 else [0, 0]

    def lacking(self):
        return [0] + unfounded_lines(self.lines)

    def makes(self):
        return [0, 1 if makes_world(self.lines) else 0]

    def shown(self):
        return [0] + bytes_of(self.lines)

    def normal(self):
        if not makes_world(self.lines):
            return [NO_WORLD]
        return [0] + bytes_of(one_form(self.lines))

    def kind(self, thing):
        return kind_answer(self.lines, thing)

    def chain(self, kind_name):
        return chain_answer(self.lines, kind_name)

    def is_so(self, thing, quality):
        return held_answer(self.lines, thing, quality, CAN_BE)

    def number(self, thing, number_name):
        return held_answer(self.lines, thing, number_name, HAS)

    def place(self, thing):
        return place_answer(self.lines, thing)

    def things(self, kind_name):
        return things_answer(self.lines, kind_name)

    def same(self, row):
        refusal = refusal_in_world(self.lines, [row], LONGEST_TEXT)
        if refusal < 0:
            return [refusal]
        lines = read_page(row)
        if None in lines:
            return [0, 2, lines.index(None) + 1]
        if not makes_world(lines):
            return [0, 3]
        return [0, 1 if bytes_of(one_form(lines)) == bytes_of(one_form(self.lines)) else 0]

    def alone(self, numbers):
        if not are_line_numbers(numbers):
            return [OUT_OF_RANGE]
        lines = [line for number, line in enumerate(self.lines, start=1) if number in numbers]
        clash = clash_of(lines)
        return [0, clash[0] if len(clash) > 0 else 0, 1 if makes_world(lines) else 0]


def answer_to_row(desk, call, row):
    """The answer to a call that has one list behind its number."""
    if call == 0:
        return desk.text(row)
    if call == 1:
        return desk.add(row)
    if call == 9:
        return desk.kind(row)
    if call == 10:
        return desk.chain(row)
    if call == 13:
        return desk.place(row)
    if call == 14:
        return desk.things(row)
    if call == 15:
        return desk.same(row)
    return desk.alone(row)


def answer_to_bare(desk, call):
    """The answer to a call that has nothing behind its number."""
    if call == 4:
        return desk.clash()
    if call == 5:
        return desk.lacking()
    if call == 6:
        return desk.makes()
    if call == 7:
        return desk.shown()
    return desk.normal()


def answer(desk, call, tape):
    """The answer to a call, whose numbers and lists are taken from the tape."""
    if call in BARE_CALLS:
        return answer_to_bare(desk, call)
    if call in ROW_CALLS:
        return answer_to_row(desk, call, tape.take_row())
    if call == 2:
        return desk.cut(tape.take_one())
    if call == 3:
        one = tape.take_one()
        return desk.swap(one, tape.take_one())
    if call in (11, 12):
        thing = tape.take_row()
        word = tape.take_row()
        return desk.is_so(thing, word) if call == 11 else desk.number(thing, word)
    raise NoSuchCall(f"no call has the number {call}")


def answers(calls):
    """Carry out the calls on a new desk; for each, how many numbers are answered, and these."""
    desk = Desk()
    tape = Tape(calls)
    told = []
    while not tape.at_end():
        found = answer(desk, tape.take_one(), tape)
        told.append(len(found))
        told.extend(found)
    return told
