"""Houses: what is one, where its doors lead, and how far its halls are from one another."""

from letterhalls.checks import ascends, is_number, is_pair
from letterhalls.errors import BadHall, BadHouse

MOST_HALLS = 10


def is_house(value):
    """Whether a value is a house."""
    return house_fault(value) is None


def doors_out(house, hall):
    """The ascending tuple of the halls to which a hall's doors lead."""
    check_house(house)
    check_hall(house, hall)
    return tuple([other for one, other in house[1] if one == hall])


def far(house, one, other):
    """How few doors lead from one hall to another."""
    check_house(house)
    check_hall(house, one)
    check_hall(house, other)
    return steps_from(house[1], one)[other]


def turned(house):
    """The house with each door the other way about."""
    check_house(house)
    halls, doors = house
    return (halls, turned_doors(doors))


def is_two_way(house):
    """Whether the house with each door the other way about is the same house."""
    return turned(house) == house


def check_house(value):
    """Raise BadHouse for a value that is no house."""
    fault = house_fault(value)
    if fault is not None:
        raise BadHouse(fault)


def check_hall(house, value):
    """Raise BadHall for a value that is no hall of a house."""
    if not is_hall(house[0], value):
        raise BadHall("no hall of the house")


def is_hall(halls, value):
    """Whether a value is one of so many halls."""
    return is_number(value, 0, halls - 1)


def house_fault(value):
    """The word of BadHouse for a value, None for a house."""
    if not is_pair(value):
        return "whole"
    halls, doors = value
    if not is_number(halls, 1, MOST_HALLS):
        return "halls"
    if not are_doors(halls, doors) or not are_joined(halls, doors):
        return "doors"
    return None


def are_doors(halls, value):
    """Whether a value is an ascending tuple of doors between unlike ones of so many halls."""
    if not isinstance(value, tuple):
        return False
    # Pairs of other values than integers cannot always be compared, so the items come first.
    return all([is_door(halls, item) for item in value]) and ascends(value)


def is_door(halls, value):
    """Whether a value is a pair of unlike ones of so many halls."""
    return is_pair(value) and all([is_hall(halls, item) for item in value]) and value[0] != value[1]


def are_joined(halls, doors):
    """Whether each hall can be come to from each other one."""
    # It is enough that hall 0 leads to all others and all others lead to it.
    return len(steps_from(doors, 0)) == halls and len(steps_from(turned_doors(doors), 0)) == halls


def turned_doors(doors):
    """The ascending tuple of the doors, each the other way about."""
    return tuple(sorted([(other, one) for one, other in doors]))


def steps_from(doors, start):
    """A dict of how few doors lead from a hall to each hall that can be come to."""
    steps = {start: 0}
    newest = [start]
    many = 0
    while newest:
        many += 1
        newest = sorted({other for one, other in doors if one in newest and other not in steps})
        for hall in newest:
            steps[hall] = many
    return steps
