"""What is asked about a world: the answers of the calls 9 to 14 to the lines of a text and to names in bytes."""

from worldtold.forms import IN, IS_A
from worldtold.holds import held, reasons
from worldtold.lacking import kind_of
from worldtold.refusal import refusal_of_kind, refusal_of_thing, refusal_of_word
from worldtold.sentence import row_of, text_of
from worldtold.told import Told, kinds_up, names_about, names_above


def as_names(names):
    """How many names there are, then for each how many bytes it has and these."""
    row = [len(names)]
    for name in names:
        row.append(len(name))
        row.extend(row_of(name))
    return row


def kind_answer(lines, row):
    refusal = refusal_of_thing(lines, row, [])
    if refusal < 0:
        return [refusal]
    return [0] + row_of(kind_of(Told(lines), text_of(row)))


def chain_answer(lines, row):
    refusal = refusal_of_kind(lines, row)
    if refusal < 0:
        return [refusal]
    return [0] + as_names(kinds_up(Told(lines), text_of(row)))


def held_answer(lines, row, word_row, letting):
    """What holds of a quality (letting form 3) or a number (letting form 4) of a thing, how, and the reasons."""
    refusal = refusal_of_word(lines, row, word_row, letting)
    if refusal < 0:
        return [refusal]
    told = Told(lines)
    thing = text_of(row)
    word = text_of(word_row)
    found = held(told, thing, kinds_up(told, kind_of(told, thing)), letting, word)
    return [0, found.said, found.how] + reasons(told, thing, letting, word, found)


def place_answer(lines, row):
    refusal = refusal_of_thing(lines, row, [])
    if refusal < 0:
        return [refusal]
    return [0] + as_names(names_above(Told(lines), IN, text_of(row)))


def things_answer(lines, row):
    refusal = refusal_of_kind(lines, row)
    if refusal < 0:
        return [refusal]
    told = Told(lines)
    kind = text_of(row)
    things = names_about(told, (IS_A,))
    return [0] + as_names([thing for thing in things if kind in kinds_up(told, kind_of(told, thing))])
