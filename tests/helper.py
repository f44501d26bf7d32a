"""Calls written by name, and their answers taken apart."""

from worldtold.desk import answers


def row(numbers):
    return [len(numbers)] + list(numbers)


def as_bytes(words):
    return list(words.encode("latin-1"))


def page(lines):
    return "".join([line + "\n" for line in lines])


def text(words):
    return [0] + row(as_bytes(words))


def lines(*told):
    return text(page(told))


def add(words):
    return [1] + row(as_bytes(words))


def cut(n):
    return [2, n]


def swap(n, m):
    return [3, n, m]


CLASH = [4]
LACKING = [5]
MAKES = [6]
SHOWN = [7]
NORMAL = [8]


def kind(thing):
    return [9] + row(as_bytes(thing))


def chain(kind_name):
    return [10] + row(as_bytes(kind_name))


def is_so(thing, quality):
    return [11] + row(as_bytes(thing)) + row(as_bytes(quality))


def number(thing, number_name):
    return [12] + row(as_bytes(thing)) + row(as_bytes(number_name))


def place(thing):
    return [13] + row(as_bytes(thing))


def things(kind_name):
    return [14] + row(as_bytes(kind_name))


def same(*told):
    return same_bytes(page(told))


def same_bytes(words):
    return [15] + row(as_bytes(words))


def alone(*numbers):
    return [16] + row(numbers)


def names(*told):
    """Names as they are answered."""
    found = [len(told)]
    for name in told:
        found += row(as_bytes(name))
    return found


def parted(numbers):
    """The answers to several calls, one list for each."""
    found = []
    start = 0
    while start < len(numbers):
        size = numbers[start]
        assert size >= 1
        assert start + 1 + size <= len(numbers)
        found.append(numbers[start + 1:start + 1 + size])
        start += 1 + size
    return found


def flat(calls):
    """The calls one behind another, as they are handed in."""
    return [value for call in calls for value in call]


def run(*calls):
    return parted(answers(flat(calls)))


def last(*calls):
    return run(*calls)[-1]


def shown(*calls):
    """The kept text behind the calls."""
    return bytes(last(*calls, SHOWN)[1:]).decode("latin-1")


def clash(*told):
    """The clash of a text: its way and its lines."""
    read, found = run(lines(*told), CLASH)
    assert read == [0, 0, len(told)], read
    assert found[0] == 0
    return found[1:]


def lacking(*told):
    read, found = run(lines(*told), LACKING)
    assert read == [0, 0, len(told)], read
    assert found[0] == 0
    return found[1:]


def makes(*told):
    return last(lines(*told), MAKES)


def normal(*told):
    """The one form of a world as lines, or the refusal."""
    found = last(lines(*told), NORMAL)
    if found[0] != 0:
        return found
    written = bytes(found[1:]).decode("latin-1")
    assert written == "" or written.endswith("\n")
    return written.split("\n")[:-1]
