"""Clashes: whether the lines of a text clash, in which way, and which of them."""

from worldtold.forms import IN, IS_A, OVER
from worldtold.tear import first_tear
from worldtold.told import Told, steps_to

TWO_PARTS = 1
TORN = 7

# By form the way of a line that says another thing than an earlier one, and that of a line that closes a ring.
CONTRARY_WAYS = {2: 2, 5: 4, 6: 5, 7: 6, 8: 11, 9: 8, 10: 12, 11: 9}
RING_WAYS = {2: 3, 11: 10}

# By form the parts that the names of a sentence play, first the one that it is about, then the other.
PARTS = {
    1: ("kind", ""),
    2: ("kind", "kind"),
    3: ("kind", "quality"),
    4: ("kind", "number"),
    5: ("thing", "kind"),
    6: ("thing", "quality"),
    7: ("kind", "quality"),
    8: ("kind", "quality"),
    9: ("thing", "number"),
    10: ("kind", "number"),
    11: ("thing", "thing"),
}


def way_by_itself(line):
    """The way in which a line clashes by itself, or 0."""
    if line.about != line.other:
        return 0
    # Only the forms of the rings have the same part twice.
    return RING_WAYS.get(line.form, TWO_PARTS)


def parts_of(line):
    """Pairs of a name in a line and the part that it plays there."""
    parts = PARTS[line.form]
    return [(line.about, parts[0]), (line.other, parts[1])]


# What is asked of a line below is asked behind lines that don't clash. So each name plays one part in all of them,
# and those that speak of the same say the same: the first of them is the first that disagrees, if any does.


def other_part(played, line):
    """The number of the first line in which a name of a line plays another part, or 0."""
    numbers = []
    for name, part in parts_of(line):
        earlier = played.get(name, (part, 0))
        if earlier[0] != part:
            numbers.append(earlier[1])
    return min(numbers, default=0)


def contrary_line(told, line):
    """The number of the first line that says what can't be true beside what a line says, or 0."""
    if line.form in (OVER, IS_A, IN):
        number = told.first_about(line.form, line.about)
        agrees = number == 0 or told.line(number).other == line.other
    else:
        number = told.first_saying(line.form, line.about, line.other)
        agrees = number == 0 or told.line(number).said == line.said
    return 0 if agrees else number


def ring_of(told, line):
    """The lines by which one comes from a line's upper name up to its lower one."""
    if line.form not in RING_WAYS:
        return []
    return steps_to(told, line.form, line.other, line.about)


def clash_with(told, played, line):
    """The clash, but for way 7, of a line behind the told ones: its way and its lines, or an empty list."""
    number = len(told.lines) + 1
    way = way_by_itself(line)
    if way > 0:
        return [way, number]
    earlier = other_part(played, line)
    if earlier > 0:
        return [TWO_PARTS, earlier, number]
    earlier = contrary_line(told, line)
    if earlier > 0:
        return [CONTRARY_WAYS[line.form], earlier, number]
    ring = ring_of(told, line)
    if len(ring) > 0:
        return [RING_WAYS[line.form]] + sorted(ring) + [number]
    return []


def clash_but_tear(lines):
    """The clash of the first line that clashes in another way than 7, or an empty list."""
    told = Told([])
    # By name the part that it plays and the first line in which it does.
    played = {}
    for line in lines:
        clash = clash_with(told, played, line)
        if len(clash) > 0:
            return clash
        told.tell(line)
        for name, part in parts_of(line):
            played.setdefault(name, (part, len(told.lines)))
    return []


def clash_of(lines):
    """The clash of a text: its way, then its lines by rising numbers; an empty list if nothing clashes."""
    clash = clash_but_tear(lines)
    # Way 7 comes last of all, so only a tear by the lines ahead goes before another clash.
    ahead = lines[:clash[-1] - 1] if len(clash) > 0 else lines
    tear = first_tear(ahead)
    return [TORN] + tear if len(tear) > 0 else clash
