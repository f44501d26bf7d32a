"""Worlds: whether a text makes one, and a world's one form."""

from worldtold.clash import clash_of
from worldtold.forms import CAN_BE, HAS, IN, IS, IS_A, KIND, NUMBER, OVER
from worldtold.holds import held
from worldtold.lacking import kind_of, unfounded_lines
from worldtold.sentence import Sentence
from worldtold.told import Told, kinds_up, names_about


def makes_world(lines):
    return len(clash_of(lines)) == 0 and len(unfounded_lines(lines)) == 0


def words_let(told, letting, kinds):
    """The qualities that one of the kinds can be (form 3) or the numbers that it has (form 4), in order."""
    words = []
    for kind in kinds:
        words.extend([told.line(number).other for number in told.all_about(letting, kind)])
    return sorted(set(words))


def form_of_kind(told, kind):
    """The lines of the one form about a kind."""
    kinds = kinds_up(told, kind)
    if len(kinds) > 1:
        lines = [Sentence(OVER, kind, kinds[1], 1)]
    else:
        lines = [Sentence(KIND, kind, "", 1)]
    for letting in (CAN_BE, HAS):
        lines.extend([Sentence(letting, kind, word, 1) for word in words_let(told, letting, kinds)])
    return lines


def form_of_thing(told, thing):
    """The lines of the one form about a thing."""
    kinds = kinds_up(told, kind_of(told, thing))
    lines = [Sentence(IS_A, thing, kinds[0], 1)]
    for quality in words_let(told, CAN_BE, kinds):
        lines.append(Sentence(IS, thing, quality, held(told, thing, kinds, CAN_BE, quality).said))
    for name in words_let(told, HAS, kinds):
        lines.append(Sentence(NUMBER, thing, name, held(told, thing, kinds, HAS, name).said))
    number = told.first_about(IN, thing)
    if number > 0:
        lines.append(Sentence(IN, thing, told.line(number).other, 1))
    return lines


def one_form(lines):
    """The lines of the one form of the world that a text makes."""
    told = Told(lines)
    shown = []
    for kind in names_about(told, (KIND, OVER)):
        shown.extend(form_of_kind(told, kind))
    for thing in names_about(told, (IS_A,)):
        shown.extend(form_of_thing(told, thing))
    return shown
