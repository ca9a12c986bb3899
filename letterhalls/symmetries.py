"""Symmetries of houses, and the lots of halls that they lead to one another."""

from letterhalls.errors import TooMany
from letterhalls.houses import check_house
from letterhalls.maps import is_map, least_maps

MOST_SYMMETRIES = 720


def symmetries(house):
    """The ascending tuple of all symmetries of a house."""
    check_house(house)
    found = least_maps(house, house, MOST_SYMMETRIES + 1)
    if len(found) > MOST_SYMMETRIES:
        raise TooMany(MOST_SYMMETRIES)
    return tuple(found)


def lots(house):
    """The ascending tuple of the lots of halls that symmetries lead to one another."""
    turns = symmetries(house)
    return tuple(sorted({lot_of(turns, hall) for hall in range(house[0])}))


def is_symmetry(house, value):
    """Whether any value is a symmetry of a house."""
    check_house(house)
    return is_map(house, house, value)


def lot_of(turns, hall):
    """The ascending tuple of the halls to which symmetries lead a hall."""
    return tuple(sorted({turn[hall] for turn in turns}))
