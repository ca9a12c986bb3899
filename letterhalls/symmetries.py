"""Symmetries of houses, and the lots of halls that they lead to one another."""

from letterhalls.checks import is_shuffle
from letterhalls.errors import TooMany
from letterhalls.houses import check_house

MOST_SYMMETRIES = 720


def symmetries(house):
    """The ascending tuple of all symmetries of a house."""
    check_house(house)
    found = least_symmetries(house, MOST_SYMMETRIES + 1)
    if len(found) > MOST_SYMMETRIES:
        raise TooMany(MOST_SYMMETRIES)
    return tuple(found)


def lots(house):
    """The ascending tuple of the lots of halls that symmetries lead to one another."""
    turns = symmetries(house)
    return tuple(sorted({lot_of(turns, hall) for hall in range(house[0])}))


def is_symmetry(house, value):
    """Whether any value is a symmetry of a house."""
    check_house(house)
    halls, doors = house
    if not is_shuffle(value, halls):
        return False
    return all([(value[one], value[other]) in doors for one, other in doors])


def lot_of(turns, hall):
    """The ascending tuple of the halls to which symmetries lead a hall."""
    return tuple(sorted({turn[hall] for turn in turns}))


def least_symmetries(house, most):
    """The ascending list of the least symmetries of a house, no more of them than `most`."""
    halls = house[0]
    doors = {door: True for door in house[1]}
    found = []
    waiting = [()]
    while waiting and len(found) < most:
        start = waiting.pop()
        if len(start) == halls:
            found.append(start)
            continue
        # The least hall is put last, hence taken first: so the symmetries are found ascending.
        for hall in reversed(range(halls)):
            if goes_on(doors, start, hall):
                waiting.append(start + (hall,))
    return found


def goes_on(doors, start, hall):
    """Whether the next hall can be led to this one, if the halls ahead of it are led as the start tells."""
    if hall in start:
        return False
    due = len(start)
    # A symmetry leads just the doors to doors, so what is no door is led to none either.
    for ahead, led in enumerate(start):
        if ((ahead, due) in doors) != ((led, hall) in doors):
            return False
        if ((due, ahead) in doors) != ((hall, led) in doors):
            return False
    return True
