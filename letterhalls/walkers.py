"""Walkers: somebody who walks through a house, and what is known of the walk so far."""

from letterhalls.checks import is_number
from letterhalls.errors import BadStep, NoDoor
from letterhalls.houses import check_hall, check_house
from letterhalls.letterings import MOST_LETTER, check_lettering, ways_of
from letterhalls.walks import ends_behind


class Walker:
    """Somebody who walks through a house."""

    def __init__(self, house, lettering, hall):
        check_house(house)
        check_lettering(house, lettering)
        check_hall(house, hall)
        self._ways = ways_of(house, lettering)
        self._letters = []
        # The halls and the beliefs ahead of each step are kept, so that it can be taken back.
        self._halls = [hall]
        self._ends = [tuple(range(house[0]))]

    @property
    def hall(self):
        """The hall that the walk has come to."""
        return self._halls[-1]

    @property
    def row(self):
        """The tuple of the letters so far."""
        return tuple(self._letters)

    @property
    def is_home(self):
        """Whether the walk is where it began."""
        return self._halls[-1] == self._halls[0]

    @property
    def seen(self):
        """The ascending tuple of the halls that the walk has come to, as far as it is not taken back."""
        return tuple(sorted(set(self._halls)))

    @property
    def beliefs(self):
        """The ascending tuple of the halls at which the row so far can end, whatever hall it begins in."""
        return self._ends[-1]

    def step(self, letter):
        """Go through the door of a letter."""
        way = self._ways[self._halls[-1]]
        # What is no integer may be equal to one, or may not stand as a key.
        if not is_number(letter, 0, MOST_LETTER) or letter not in way:
            raise NoDoor("the letter of no door here")
        self._letters.append(letter)
        self._halls.append(way[letter])
        self._ends.append(ends_behind(self._ways, self._ends[-1], letter))

    def undo(self):
        """Take the last step back."""
        if not self._letters:
            raise BadStep("no step to take back")
        self._letters.pop()
        self._halls.pop()
        self._ends.pop()
