"""Houses that are alike, and the maps that lead the halls of one to those of the other."""

from letterhalls.houses import check_house
from letterhalls.maps import is_map, least_maps


def are_alike(one, other):
    """Whether some map of the halls of one house to those of another leads just the doors to doors."""
    return like(one, other) is not None


def like(one, other):
    """A map of the halls of one house to those of another that leads just the doors to doors, None without any."""
    check_house(one)
    check_house(other)
    found = least_maps(one, other, 1)
    return found[0] if found else None


def shows_like(one, other, value):
    """Whether a value is such a map, or None if there is none."""
    check_house(one)
    check_house(other)
    if value is None:
        return not are_alike(one, other)
    return is_map(one, other, value)
