"""Clashes: whether the lines of a text clash, in which way, and which of them."""

from worldtold.forms import IN, IS_A, OVER
from worldtold.tear import tear_of
from worldtold.told import Told, steps_to

TWO_PARTS = 1
TORN = 7

# By form the way of a line that says another thing than an earlier one, and that of a line that closes a ring.
CONTRARY_WAYS = {2: 2, 5: 4, 6: 5, 7: 6, 8: 11, 9: 8, 10: 12, 11: 9}
RING_WAYS = {2: 3, 11: 10}

# By form the parts that the names of a sentence play, first the one that it is about, then the other.
PARTS = {
    1: ("kind", ""),
    2: ("kind", "kind"),
    3: ("kind", "quality"),
    4: ("kind", "number"),
    5: ("thing", "kind"),
    6: ("thing", "quality"),
    7: ("kind", "quality"),
    8: ("kind", "quality"),
    9: ("thing", "number"),
    10: ("kind", "number"),
    11: ("thing", "thing"),
}


def way_by_itself(line):
    """The way in which a line clashes by itself, or 0."""
    if line.about != line.other:
        return 0
    # Only the forms of the rings have the same part twice.
    return RING_WAYS.get(line.form, TWO_PARTS)


def parts_of(line):
    """Pairs of a name in a line and the part that it plays there."""
    parts = PARTS[line.form]
    return [(line.about, parts[0]), (line.other, parts[1])]


def parts_differ(earlier, line):
    """Whether a name plays one part in a line and another in the other."""
    for name, part in parts_of(earlier):
        for same_name, new_part in parts_of(line):
            if name == same_name and part != new_part:
                return True
    return False


def are_contrary(earlier, line):
    """Whether two lines of one form say what can't be both."""
    if earlier.form != line.form or earlier.about != line.about:
        return False
    if line.form in (OVER, IS_A, IN):
        return earlier.other != line.other
    return earlier.other == line.other and earlier.said != line.said


def first_with(lines, line, disagree):
    """The number of the first of the lines that disagrees with a line, or 0."""
    for number, earlier in enumerate(lines, start=1):
        if disagree(earlier, line):
            return number
    return 0


def ring_of(told, line):
    """The lines by which one comes from a line's upper name up to its lower one."""
    if line.form not in RING_WAYS:
        return []
    return steps_to(told, line.form, line.other, line.about)


def clash_with(told, line):
    """The clash, but for way 7, of a line behind lines that don't clash: its way and its lines, or an empty list."""
    number = len(told.lines) + 1
    way = way_by_itself(line)
    if way > 0:
        return [way, number]
    earlier = first_with(told.lines, line, parts_differ)
    if earlier > 0:
        return [TWO_PARTS, earlier, number]
    earlier = first_with(told.lines, line, are_contrary)
    if earlier > 0:
        return [CONTRARY_WAYS[line.form], earlier, number]
    ring = ring_of(told, line)
    if len(ring) > 0:
        return [RING_WAYS[line.form]] + sorted(ring) + [number]
    return []


def clash_of(lines):
    """The clash of a text: its way, then its lines by rising numbers; an empty list if nothing clashes."""
    told = Told([])
    for line in lines:
        clash = clash_with(told, line)
        if len(clash) > 0:
            return clash
        told.tell(line)
        tear = tear_of(told)
        if len(tear) > 0:
            return [TORN] + tear
    return []
