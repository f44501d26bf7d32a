"""Sentences: how one is read, and how it is written."""

from worldtold.forms import EVERY, IS, USUALLY

SIGNS = " -.0123456789abcdefghijklmnopqrstuvwxyz"
LETTERS = "abcdefghijklmnopqrstuvwxyz"
WORDS = ("is", "a", "kind", "of", "can", "be", "has", "number", "every", "usually", "not", "the", "in")
LONGEST_NAME = 12
LARGEST_NUMBER = 1000000000

# One table serves the reader and the writer, so what is read is written just as it was.
# A row is the number of a form, what its sentences say (1 yes, 0 no) and its words.
# A slot is in capital letters, which no word of a sentence has.
SHAPES = (
    (1, 1, "ABOUT is a kind"),
    (2, 1, "ABOUT is a kind of OTHER"),
    (3, 1, "ABOUT can be OTHER"),
    (4, 1, "ABOUT has a number OTHER"),
    (5, 1, "ABOUT is a OTHER"),
    (6, 1, "ABOUT is OTHER"),
    (6, 0, "ABOUT is not OTHER"),
    (7, 1, "every ABOUT is OTHER"),
    (7, 0, "every ABOUT is not OTHER"),
    (8, 1, "usually every ABOUT is OTHER"),
    (8, 0, "usually every ABOUT is not OTHER"),
    (9, 1, "the OTHER of ABOUT is SAID"),
    (10, 1, "the OTHER of every ABOUT is usually SAID"),
    (11, 1, "ABOUT is in OTHER"),
)


class Sentence:
    """A sentence of a form, about a kind or a thing, with the other name in it, if there is one.

    What is said is a number in the forms that tell one, else 1 for yes and 0 for no.
    """

    def __init__(self, form, about, other, said):
        self.form = form
        self.about = about
        self.other = other
        self.said = said


def text_of(row):
    """The text that bytes stand for; a byte that no sentence has becomes a sign that no sentence has."""
    signs = dict([(ord(sign), sign) for sign in SIGNS])
    return "".join([signs.get(byte, "?") for byte in row])


def row_of(text):
    """The bytes of a text."""
    return [ord(sign) for sign in text]


def is_name(word):
    if len(word) < 1 or len(word) > LONGEST_NAME or word in WORDS:
        return False
    return all([sign in LETTERS for sign in word])


def is_number(word):
    digits = word[1:] if word.startswith("-") else word
    # The length is asked first, as Python refuses to turn very long rows of digits into numbers.
    if len(digits) > len(str(LARGEST_NUMBER)) or not digits.isdigit():
        return False
    return str(int(word)) == word and abs(int(word)) <= LARGEST_NUMBER


def fits(slot, word):
    """Whether a word may stand where a shape has this slot."""
    if slot == "ABOUT" or slot == "OTHER":
        return is_name(word)
    if slot == "SAID":
        return is_number(word)
    return slot == word


def fill(shape, words):
    """The words by the slots of a shape where they stand, or None if they don't fit it."""
    slots = shape.split(" ")
    if len(slots) != len(words):
        return None
    filled = {}
    for slot, word in zip(slots, words):
        if not fits(slot, word):
            return None
        filled[slot] = word
    return filled


def read_sentence(row):
    """The sentence that these bytes are, or None if they are none."""
    text = text_of(row)
    if not text.endswith("."):
        return None
    words = text[:-1].split(" ")
    for form, answer, shape in SHAPES:
        filled = fill(shape, words)
        if filled is not None:
            said = int(filled["SAID"]) if "SAID" in filled else answer
            return Sentence(form, filled["ABOUT"], filled.get("OTHER", ""), said)
    return None


def shape_of(sentence):
    """The words of a sentence's form, in the forms 6 to 8 those for what it says."""
    fitting = [shape for form, answer, shape in SHAPES if form == sentence.form]
    if sentence.form in (IS, EVERY, USUALLY) and sentence.said == 0:
        return fitting[1]
    return fitting[0]


def written(sentence):
    """The text of a sentence."""
    filled = {"ABOUT": sentence.about, "OTHER": sentence.other, "SAID": str(sentence.said)}
    words = [filled.get(slot, slot) for slot in shape_of(sentence).split(" ")]
    return " ".join(words) + "."
