"""Walks through houses with letterings: where rows of letters end, and when they come back."""

from letterhalls.checks import check_number, is_number
from letterhalls.errors import BadKind, BadRow
from letterhalls.houses import check_hall, check_house
from letterhalls.letterings import MOST_LETTER, check_even, check_lettering, ways_of

MOST_STEPS = 60


def walk(house, lettering, hall, row):
    """The hall behind a row that begins in a hall, None if it can't be walked."""
    check_house(house)
    check_lettering(house, lettering)
    check_hall(house, hall)
    check_row(row)
    return hall_behind(ways_of(house, lettering), hall, row)


def could_be(house, lettering, row):
    """The ascending tuple of the halls at which a row can end, whatever hall it begins in."""
    check_house(house)
    check_lettering(house, lettering)
    check_row(row)
    return ends_of(ways_of(house, lettering), row)


def comes_back(house, lettering, kind, row):
    """Whether a row comes back to the hall of a kind where it began, None if it can't be walked."""
    check_kind(house, lettering, kind)
    check_row(row)
    check_even(house, lettering)
    start = lettering[0].index(kind)
    end = hall_behind(ways_of(house, lettering), start, row)
    return None if end is None else end == start


def count_back(house, lettering, kind, size):
    """How many rows of so many letters come back to the hall of a kind where they began."""
    check_kind(house, lettering, kind)
    check_number(size, 0, MOST_STEPS)
    check_even(house, lettering)
    start = lettering[0].index(kind)
    counts = [1 if hall == start else 0 for hall in range(house[0])]
    for _ in range(size):
        counts = counts_behind(house[1], counts)
    return counts[start]


def shortest_back(house, lettering, kind):
    """The least of the shortest rows of at least one letter that come back, None if there is none."""
    check_kind(house, lettering, kind)
    check_even(house, lettering)
    return least_back(ways_of(house, lettering), lettering[0].index(kind))


def check_kind(house, lettering, value):
    """Raise BadHouse, BadLettering, or BadKind for a value that is none of the kinds of the lettering."""
    check_house(house)
    check_lettering(house, lettering)
    if not is_number(value, 0, house[0] - 1) or value not in lettering[0]:
        raise BadKind("none of the kinds of the lettering")


def check_row(value):
    """Raise BadRow for a value that is no row of letters, or one too long."""
    if not isinstance(value, tuple) or len(value) > MOST_STEPS:
        raise BadRow(None)
    for index, item in enumerate(value):
        if not is_number(item, 0, MOST_LETTER):
            raise BadRow(index)


def hall_behind(ways, hall, row):
    """The hall behind a row that begins in a hall, None if it can't be walked."""
    here = hall
    for letter in row:
        if letter not in ways[here]:
            return None
        here = ways[here][letter]
    return here


def ends_of(ways, row):
    """The ascending tuple of the halls at which a row can end."""
    ends = tuple(range(len(ways)))
    for letter in row:
        ends = ends_behind(ways, ends, letter)
    return ends


def ends_behind(ways, ends, letter):
    """The ascending tuple of the halls to which a letter leads from any of some halls."""
    return tuple(sorted({ways[hall][letter] for hall in ends if letter in ways[hall]}))


def counts_behind(doors, counts):
    """How many rows one letter longer come to each hall, where so many come to each now."""
    # Letters of doors out of one hall are unlike, so rows are as many as ways through doors.
    return [sum([counts[one] for one, other in doors if other == hall]) for hall in range(len(counts))]


def least_back(ways, start):
    """The row that `shortest_back` tells."""
    seen = {start: True}
    waiting = [(start, ())]
    while waiting:
        here, row = waiting.pop(0)
        for letter in sorted(ways[here]):
            hall = ways[here][letter]
            if hall == start:
                return row + (letter,)
            if hall not in seen:
                seen[hall] = True
                waiting.append((hall, row + (letter,)))
    return None
