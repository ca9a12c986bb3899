"""Even letterings of houses, and the free groups that they are made of."""

from letterhalls.checks import check_number
from letterhalls.errors import BadGroup, NoLettering
from letterhalls.groups import free_groups, is_free_group
from letterhalls.houses import MOST_HALLS, check_house
from letterhalls.letterings import check_even, check_lettering, is_even, lettering_fault, plain, ways_of
from letterhalls.symmetries import is_symmetry


def letterings(house, kinds):
    """The ascending tuple of all plain even letterings with just so many unlike kinds."""
    return tuple(sorted([lettering_by(house, group) for group in groups_of(house, kinds)]))


def count_letterings(house, kinds):
    """How many plain even letterings with just so many unlike kinds there are."""
    return len(groups_of(house, kinds))


def kinds_there(house):
    """The ascending tuple of the numbers of kinds of which there are even letterings."""
    groups = free_groups(house)
    return tuple(sorted({house[0] // len(group) for group in groups}))


def least_kinds(house):
    """The least number of kinds of which there are even letterings."""
    return kinds_there(house)[0]


def even_lettering(house, kinds):
    """An even lettering with just so many kinds."""
    groups = groups_of(house, kinds)
    if not groups:
        raise NoLettering(f"no even lettering with just {kinds} kinds")
    return lettering_by(house, groups[0])


def shows_even_lettering(house, kinds, value):
    """Whether a value is an even lettering with just so many kinds."""
    check_house(house)
    check_number(kinds, 1, MOST_HALLS)
    if lettering_fault(house, value) is not None:
        return False
    return len(set(value[0])) == kinds and is_even(house, value)


def are_one(house, one, other):
    """Whether two letterings are one but for names."""
    return plain(house, one) == plain(house, other)


def group_of(house, lettering):
    """The free group of the symmetries that lead doors to doors of the same letter and kind."""
    check_house(house)
    check_lettering(house, lettering)
    check_even(house, lettering)
    kinds = lettering[0]
    ways = ways_of(house, lettering)
    return tuple([turn_to(ways, hall) for hall in range(house[0]) if kinds[hall] == kinds[0]])


def lettering_of(house, group):
    """The plain even lettering whose group a free group is."""
    check_house(house)
    check_group(house, group)
    return lettering_by(house, group)


def check_group(house, value):
    """Raise BadGroup for a value that is no free group of a house."""
    if not isinstance(value, tuple) or len(value) > house[0]:
        raise BadGroup(None)
    for index, item in enumerate(value):
        if not is_symmetry(house, item):
            raise BadGroup(index)
    if not is_free_group(house[0], value):
        raise BadGroup(None)


def groups_of(house, kinds):
    """The list of the free groups of a house whose lots of halls are just so many."""
    check_house(house)
    check_number(kinds, 1, MOST_HALLS)
    # A free group has as many symmetries as halls in each of its lots.
    return [group for group in free_groups(house) if len(group) * kinds == house[0]]


def lettering_by(house, group):
    """The plain lettering whose kinds are the lots of halls of a free group, and whose letters are lots of doors."""
    halls, doors = house
    kinds = [min([turn[hall] for turn in group]) for hall in range(halls)]
    letters = [doors.index(min([(turn[one], turn[other]) for turn in group])) for one, other in doors]
    return plain(house, (tuple(kinds), tuple(letters)))


def turn_to(ways, start):
    """The symmetry that leads hall 0 to another one, and what a row comes to from the one to what it does from it."""
    led = {0: start}
    waiting = [0]
    while waiting:
        here = waiting.pop()
        for letter, hall in ways[here].items():
            if hall not in led:
                led[hall] = ways[led[here]][letter]
                waiting.append(hall)
    return tuple([led[hall] for hall in range(len(ways))])
