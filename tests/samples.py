"""Houses and values for the tests, and slow plain ways to the same answers."""

from itertools import permutations


def two_way(halls, pairs):
    """The house with a door each way between the halls of each pair."""
    doors = set(pairs) | {(other, one) for one, other in pairs}
    return (halls, tuple(sorted(doors)))


def whole(halls):
    """The house with a door from each hall to each other one."""
    return two_way(halls, [(one, other) for one in range(halls) for other in range(one)])


def one_way_ring(halls):
    return (halls, tuple(sorted((hall, (hall + 1) % halls) for hall in range(halls))))


def two_way_ring(halls):
    return two_way(halls, [(hall, (hall + 1) % halls) for hall in range(halls)])


def row_of(halls):
    """The house of halls side by side, with doors both ways."""
    return two_way(halls, [(hall, hall + 1) for hall in range(halls - 1)])


def star(halls):
    """The house with hall 0 in the middle of all others."""
    return two_way(halls, [(0, hall) for hall in range(1, halls)])


def parted(one, other):
    """The house with doors both ways between all of some halls and all of the others."""
    return two_way(one + other, [(a, one + b) for a in range(one) for b in range(other)])


def renamed(house, names):
    """The house with its halls numbered otherwise."""
    halls, doors = house
    return (halls, tuple(sorted((names[one], names[other]) for one, other in doors)))


SINGLE = (1, ())
SWAP = (2, ((0, 1), (1, 0)))
LINE = (3, ((0, 1), (1, 0), (1, 2), (2, 1)))
RING = (3, ((0, 1), (1, 2), (2, 0)))
# Two one-way rings through hall 0, one of three halls and one of four: it has no symmetry but the still one.
EIGHT = (6, ((0, 1), (0, 3), (1, 2), (2, 0), (3, 4), (4, 5), (5, 0)))
# Outer ring 0 to 4, inner star 5 to 9.
PETERSEN = two_way(
    10,
    [(hall, (hall + 1) % 5) for hall in range(5)]
    + [(hall, hall + 5) for hall in range(5)]
    + [(hall + 5, (hall + 2) % 5 + 5) for hall in range(5)],
)
CUBE = two_way(8, [(one, one ^ bit) for one in range(8) for bit in (1, 2, 4)])
# Hall 0 has three halls beside it with doors both ways, and five more with the same and a way round through hall 9.
TWO_BUNCHES = (
    10,
    tuple(sorted(
        [(0, hall) for hall in range(1, 10)]
        + [(hall, 0) for hall in range(1, 10)]
        + [(hall, 9) for hall in range(4, 9)]
    )),
)
# Four pairs of halls, each hall with doors both ways to all but its fellow (384 symmetries), and two more halls
# that have doors both ways to all of those (twice as many).
FOUR_PAIRS = two_way(
    10,
    [(one, other) for one in range(8) for other in range(one) if one // 2 != other // 2]
    + [(hall, extra) for hall in range(8) for extra in (8, 9)]
    + [(8, 9)],
)

HOUSES = [
    SINGLE, SWAP, LINE, RING, EIGHT, PETERSEN, CUBE, TWO_BUNCHES,
    row_of(10), star(5), parted(2, 3), parted(3, 3), whole(4), whole(6),
    one_way_ring(2), one_way_ring(5), one_way_ring(10), two_way_ring(4), two_way_ring(6), two_way_ring(10),
    (3, ((0, 1), (0, 2), (1, 0), (2, 1))),
    (4, ((0, 1), (0, 2), (1, 3), (2, 3), (3, 0))),
    renamed(row_of(4), (2, 0, 3, 1)),
    renamed(two_way_ring(5), (0, 2, 4, 1, 3)),
]

# One value of each kind that may be passed, and some of each that lie at an edge.
ANY_VALUES = [
    0, 1, 2, -1, 3, 10, 11, 10 ** 40, -(10 ** 40), "", "0", "house", True, False, None,
    (), (0,), (0, 1), (0, 1, 2), (None,), ((),), [], [0], [0, 1], [[]], {}, {0: 1}, {"halls": [()]},
    ([0], {1: (2,)}), [(0, 1), (1, 0)], ("0", "1"), (True, False), (False, True), (None, None), ((0, 1), (1, 0)),
]

DOORS = ((0, 1), (1, 0))


def deep(levels):
    """A tuple within a tuple within a tuple, and so on."""
    value = ()
    for _ in range(levels):
        value = (value,)
    return value


WRONG_WHOLE = [
    value for value in ANY_VALUES if not (isinstance(value, tuple) and len(value) == 2)
] + [
    (2,), (DOORS,), (2, DOORS, 0), (2, DOORS, ()), [2, DOORS], [2, [[0, 1], [1, 0]]], {0: 2, 1: DOORS}, {2: DOORS},
    "2 ", deep(3000),
]

WRONG_HALLS = [
    (halls, doors)
    for halls in [
        0, -1, -2, 11, 12, 10 ** 40, True, False, None, "", "2", (), (2,), [], [2], {}, {2: 2}, deep(3000),
    ]
    for doors in [(), DOORS, None, one_way_ring(10)[1], one_way_ring(11)[1]]
]

# Doors of the house of two halls where one place holds what cannot stand there.
WRONG_PLACES = [True, False, None, "", "0", "1", -1, 2, 10 ** 40, (), (0,), [], [0], [1], {}, {0: 1}]

WRONG_DOORS = [
    (1, value) for value in ANY_VALUES + [((0, 0),), ((0, 1),), ((1, 0),), deep(3000)] if value != ()
] + [
    (2, value) for value in ANY_VALUES + [list(DOORS), {(0, 1): (1, 0)}, ([0, 1], [1, 0])] if value != DOORS
] + [
    (2, ((0, 1), (1, wrong))) for wrong in WRONG_PLACES
] + [
    (2, ((0, wrong), (1, 0))) for wrong in WRONG_PLACES if wrong != 1 or wrong is True
] + [
    (2, ((0, 1), (wrong, 0))) for wrong in WRONG_PLACES
] + [
    (2, ((wrong, 1), (1, 0))) for wrong in WRONG_PLACES
] + [
    (2, ((0, 1), wrong)) for wrong in ANY_VALUES
] + [
    (2, (wrong, (1, 0))) for wrong in ANY_VALUES if wrong != (0, 1)
] + [
    # Pairs that are too short or too long, lists and strings for pairs.
    (2, ((0, 1), (1,))), (2, ((0, 1), (1, 0, 0))), (2, ((0,), (1, 0))), (2, ((0, 1, 1), (1, 0))),
    (2, ((0, 1), ())), (2, ((0, 1), [1, 0])), (2, ([0, 1], (1, 0))), (2, ("01", "10")), (2, ((0, 1), {1: 0, 0: 1})),
    # Not ascending, or twice.
    (2, ((1, 0), (0, 1))), (2, ((0, 1), (0, 1), (1, 0))), (2, ((0, 1), (1, 0), (1, 0))),
    (3, ((0, 1), (1, 2), (1, 0), (2, 1))), (3, ((0, 2), (0, 1), (1, 0), (2, 1))), (3, ((2, 0), (0, 1), (1, 2))),
    # To the own hall.
    (2, ((0, 0), (0, 1), (1, 0))), (2, ((0, 1), (1, 0), (1, 1))), (3, ((0, 1), (1, 1), (1, 2), (2, 0))),
    # Halls below 0 or above the last.
    (2, ((-1, 0), (0, 1), (1, 0))), (2, ((0, -1), (0, 1), (1, 0))), (2, ((0, 1), (1, 0), (1, 2))),
    (2, ((0, 1), (1, 0), (2, 0))), (9, one_way_ring(10)[1]), (10, one_way_ring(11)[1]),
    (3, ((-1, 0), (0, 1), (1, -1))),
    # Some hall cannot be come to from another.
    (2, ()), (2, ((0, 1),)), (2, ((1, 0),)), (3, DOORS), (3, ((0, 1), (1, 2))), (3, ((0, 1), (1, 0), (1, 2))),
    (3, ((0, 1), (1, 0), (2, 1))), (3, ((0, 1), (0, 2), (1, 0))), (3, ((1, 2), (2, 1))),
    (4, ((0, 1), (1, 0), (2, 3), (3, 2))), (4, ((0, 1), (1, 0), (1, 2), (2, 3), (3, 2))),
    (4, ((0, 1), (1, 0), (2, 1), (2, 3), (3, 2))), (10, one_way_ring(9)[1]), (10, ()),
    (10, one_way_ring(10)[1][:-1]), (10, one_way_ring(10)[1][1:]),
]

WRONG_HOUSES = (
    [(value, "whole") for value in WRONG_WHOLE]
    + [(value, "halls") for value in WRONG_HALLS]
    + [(value, "doors") for value in WRONG_DOORS]
)


def wrong_halls(house):
    """Values that are no halls of a house."""
    halls = house[0]
    return [
        -1, -halls, halls, halls + 1, 10, 10 ** 40, True, False, None, "", "0", "hall",
        (), (0,), (0, 0), [], [0], {}, {0: 0}, deep(3000),
    ]


def all_doors(halls):
    return [(one, other) for one in range(halls) for other in range(halls) if one != other]


def door_tuples(halls):
    """All ascending tuples of doors of so many halls, joined or not."""
    doors = all_doors(halls)
    for bits in range(2 ** len(doors)):
        yield tuple(door for at, door in enumerate(doors) if bits >> at & 1)


def slow_steps(halls, doors):
    """A table of how few doors lead from each hall to each other one, None where none do."""
    table = [[0 if one == other else None for other in range(halls)] for one in range(halls)]
    for one, other in doors:
        table[one][other] = 1
    for via in range(halls):
        for one in range(halls):
            for other in range(halls):
                if table[one][via] is not None and table[via][other] is not None:
                    sum_of_both = table[one][via] + table[via][other]
                    if table[one][other] is None or sum_of_both < table[one][other]:
                        table[one][other] = sum_of_both
    return table


def small_houses(most):
    """All houses of up to so many halls."""
    for halls in range(1, most + 1):
        for doors in door_tuples(halls):
            if all(steps is not None for row in slow_steps(halls, doors) for steps in row):
                yield halls, doors


def slow_symmetries(house):
    """The symmetries of a house, by trial of all rows of its halls."""
    halls, doors = house
    known = set(doors)
    return tuple(
        row for row in permutations(range(halls))
        if all((row[one], row[other]) in known for one, other in doors)
    )


def slow_lots(house):
    """The lots of a house, by putting halls together that a symmetry leads to one another."""
    rows = slow_symmetries(house)
    found = []
    for hall in range(house[0]):
        lot = tuple(other for other in range(house[0]) if any(row[hall] == other for row in rows))
        if lot not in found:
            found.append(lot)
    return tuple(sorted(found))


def mixed_houses(halls, many):
    """Some houses of so many halls, always the same: a ring through all halls and doors picked by a fixed rule."""
    state = halls * 7919 + 1
    found = []
    for _ in range(many):
        state = (state * 1103515245 + 12345) % 2 ** 31
        step = next(step for step in range(1 + state % halls, 2 * halls) if all_met(halls, step))
        doors = {(hall, (hall + step) % halls) for hall in range(halls)}
        for door in all_doors(halls):
            state = (state * 1103515245 + 12345) % 2 ** 31
            if state >> 16 & 3 == 0:
                doors.add(door)
        found.append((halls, tuple(sorted(doors))))
    return found


def all_met(halls, step):
    """Whether steps of this size meet all halls of a ring."""
    return len({step * turn % halls for turn in range(halls)}) == halls
