"""Texts of bytes: how their lines are read, and how lines are shown."""

from worldtold.sentence import read_sentence, row_of, written

LINE_END = 10


def parted(row):
    """The bytes ahead of each line's end, and last those behind the last line's end."""
    parts = [[]]
    for byte in row:
        if byte == LINE_END:
            parts.append([])
        else:
            parts[-1].append(byte)
    return parts


def read_page(row):
    """The sentence of each line, None for a line that is no sentence."""
    parts = parted(row)
    lines = [read_sentence(part) for part in parts[:-1]]
    # Without a line's end behind it even a whole sentence is no line of a text.
    if len(parts[-1]) > 0:
        lines.append(None)
    return lines


def bytes_of(lines):
    """The bytes of lines, each with a line's end behind it."""
    row = []
    for line in lines:
        row.extend(row_of(written(line)))
        row.append(LINE_END)
    return row
