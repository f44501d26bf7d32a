"""Worlds: whether a text makes one, what holds in it, and its one form."""

from worldtold.clash import clash_of
from worldtold.forms import CAN_BE, EVERY, HAS, IN, IS, IS_A, KIND, NUMBER, OVER, USUAL_NUMBER, USUALLY
from worldtold.lacking import kind_of, unfounded_lines
from worldtold.sentence import Sentence
from worldtold.told import Told, kinds_up


def makes_world(lines):
    return len(clash_of(lines)) == 0 and len(unfounded_lines(lines)) == 0


def saying_line(told, thing, word, form, kind_forms):
    """The number of the line by which a quality or a number of a thing holds, or 0.

    What is told of the thing itself goes first, then what each of the other forms says of the nearest kind.
    """
    number = told.first_saying(form, thing, word)
    if number > 0:
        return number
    for kind_form in kind_forms:
        for kind in kinds_up(told, kind_of(told, thing)):
            number = told.first_saying(kind_form, kind, word)
            if number > 0:
                return number
    return 0


def said_by(told, number):
    """What a line says, or 0 (no, or the number 0) where no line says anything."""
    return told.line(number).said if number > 0 else 0


def quality_held(told, thing, quality):
    return said_by(told, saying_line(told, thing, quality, IS, (EVERY, USUALLY)))


def number_held(told, thing, name):
    return said_by(told, saying_line(told, thing, name, NUMBER, (USUAL_NUMBER,)))


def names_about(told, forms):
    """The names that lines of these forms are about, in order."""
    return sorted(set([line.about for line in told.lines if line.form in forms]))


def words_let(told, form, kind):
    """The qualities that a kind can be (form 3) or the numbers that it has (form 4), in order."""
    kinds = kinds_up(told, kind)
    return sorted(set([line.other for line in told.lines if line.form == form and line.about in kinds]))


def form_of_kind(told, kind):
    """The lines of the one form about a kind."""
    number = told.first_about(OVER, kind)
    if number > 0:
        lines = [Sentence(OVER, kind, told.line(number).other, 1)]
    else:
        lines = [Sentence(KIND, kind, "", 1)]
    for form in (CAN_BE, HAS):
        lines.extend([Sentence(form, kind, word, 1) for word in words_let(told, form, kind)])
    return lines


def form_of_thing(told, thing):
    """The lines of the one form about a thing."""
    kind = kind_of(told, thing)
    lines = [Sentence(IS_A, thing, kind, 1)]
    for quality in words_let(told, CAN_BE, kind):
        lines.append(Sentence(IS, thing, quality, quality_held(told, thing, quality)))
    for name in words_let(told, HAS, kind):
        lines.append(Sentence(NUMBER, thing, name, number_held(told, thing, name)))
    number = told.first_about(IN, thing)
    if number > 0:
        lines.append(Sentence(IN, thing, told.line(number).other, 1))
    return lines


def one_form(lines):
    """The lines of the one form of the world that a text makes."""
    told = Told(lines)
    shown = []
    for kind in names_about(told, (KIND, OVER)):
        shown.extend(form_of_kind(told, kind))
    for thing in names_about(told, (IS_A,)):
        shown.extend(form_of_thing(told, thing))
    return shown
