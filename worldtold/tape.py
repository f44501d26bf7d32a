"""The calls in a list of numbers, taken one behind another."""


class Tape:
    """The numbers that were handed in, and how many of them are taken."""

    def __init__(self, numbers):
        self.numbers = numbers
        self.taken = 0

    def at_end(self):
        return self.taken >= len(self.numbers)

    def take_one(self):
        self.taken = self.taken + 1
        return self.numbers[self.taken - 1]

    def take_row(self):
        """A list with how many numbers it has before it."""
        size = self.take_one()
        start = self.taken
        self.taken = start + size
        return self.numbers[start:start + size]
