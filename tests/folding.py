"""Folds for the tests, values that are none, and slow plain ways to the same answers."""

from tests import samples


def behind(one, other):
    """Of one and another behind it the item at place p is that of the other at the place that the one tells at p."""
    return tuple(other[one[place]] for place in range(len(one)))


def made_of(*makers):
    """The ascending tuple of all turns that some turns make, one behind another."""
    found = {tuple(range(len(makers[0])))}
    while True:
        more = found | {behind(one, maker) for one in found for maker in makers}
        if more == found:
            return tuple(sorted(found))
        found = more


def around(size, step=1):
    """The turn that leads each place so many further, counted around."""
    return tuple((place + step) % size for place in range(size))


STILL = ((0,),)
SWAP = ((0, 1), (1, 0))
THREE = made_of(around(3))
FIVE = made_of(around(5))
TEN = made_of(around(10))
# All turns of three numbers: which of two is behind the other matters here.
ALL_OF_THREE = made_of((1, 0, 2), (0, 2, 1))
# Those of a ring of five, turned over or not, and of ten, turned by one step of two rings at once.
OVER_FIVE = made_of(around(5), (0, 4, 3, 2, 1))
TWO_AND_FIVE = made_of((1, 0, 3, 4, 5, 6, 2))
FOUR_SWAPS = made_of((1, 0, 3, 2), (2, 3, 0, 1))
CUBE_SWAPS = made_of((1, 0, 2, 3, 4, 5), (0, 1, 3, 2, 4, 5), (0, 1, 2, 3, 5, 4))
# A turn that leaves places: it need not lead all of them elsewhere.
ONE_SWAP = ((0, 1, 2), (0, 2, 1))
QUATERNIONS = made_of((1, 2, 3, 0, 5, 6, 7, 4), (4, 7, 6, 5, 2, 1, 0, 3))

GROUPS = [
    STILL, SWAP, THREE, FIVE, TEN, ALL_OF_THREE, OVER_FIVE, TWO_AND_FIVE, FOUR_SWAPS, CUBE_SWAPS, ONE_SWAP,
    QUATERNIONS, made_of(around(4)), made_of(around(7)), made_of(around(9)), (tuple(range(10)),),
    made_of((1, 0) + tuple(range(2, 10))), made_of((1, 2, 0, 4, 3)), made_of((1, 0, 3, 2), (0, 1, 3, 2)),
]


def ring_of_ten(turn):
    """The fold of ten kinds with one turn whose house is a one-way ring."""
    return ((turn,), tuple((((kind + 1) % 10, turn),) for kind in range(10)))


PETERSEN = (FIVE, (
    ((0, around(5)), (0, around(5, 4)), (1, around(5, 0))),
    ((0, around(5, 0)), (1, around(5, 2)), (1, around(5, 3))),
))

FOLDS = [
    (STILL, ((),)),
    ((tuple(range(10)),), ((),)),
    (STILL, (((1, (0,)),), ((0, (0,)),))),
    (SWAP, (((0, (1, 0)),),)),
    (ONE_SWAP, (((0, (0, 2, 1)),),)),
    (SWAP, (((1, (0, 1)), (1, (1, 0))), ((0, (0, 1)),))),
    (ALL_OF_THREE, (((0, (1, 0, 2)), (0, (1, 2, 0))),)),
    (ALL_OF_THREE, (((0, (1, 2, 0)), (0, (1, 0, 2))),)),
    (ALL_OF_THREE, (tuple((0, turn) for turn in ALL_OF_THREE[1:]),)),
    (OVER_FIVE, (((0, around(5)), (0, (0, 4, 3, 2, 1))),)),
    (TWO_AND_FIVE, (((0, (1, 0, 3, 4, 5, 6, 2)),),)),
    (TEN, (((0, around(10, 3)),),)),
    (TEN, (tuple((0, turn) for turn in reversed(TEN[1:])),)),
    (QUATERNIONS, (((0, (1, 2, 3, 0, 5, 6, 7, 4)), (0, (4, 7, 6, 5, 2, 1, 0, 3))),)),
    (CUBE_SWAPS, (((0, (1, 0, 2, 3, 4, 5)), (0, (0, 1, 3, 2, 4, 5)), (0, (0, 1, 2, 3, 5, 4))),)),
    ring_of_ten((0,)), ring_of_ten(tuple(range(10))),
    (SWAP, tuple((((kind + 1) % 5, (1, 0) if kind == 4 else (0, 1)),) for kind in range(5))),
    PETERSEN,
]


def slow_behind_all(fold):
    """The doors and letters of a fold, by names of its halls: a dict of lists of letters."""
    turns, table = fold
    names = [(kind, turn) for kind in range(len(table)) for turn in turns]
    found = {}
    for kind, turn in names:
        for letter, (later, more) in enumerate(table[kind]):
            door = names.index((kind, turn)), names.index((later, behind(more, turn)))
            found.setdefault(door, []).append(letter)
    return found


def slow_unfolded(fold):
    """The pair of the house and the lettering of a fold, None if there is none."""
    turns, table = fold
    halls = len(table) * len(turns)
    known = slow_behind_all(fold)
    if not halls or any(one == other for one, other in known) or any(len(found) > 1 for found in known.values()):
        return None
    doors = tuple(sorted(known))
    if any(steps is None for row in samples.slow_steps(halls, doors) for steps in row):
        return None
    kinds = tuple(kind for kind in range(len(table)) for _ in turns)
    return (halls, doors), (kinds, tuple(known[door][0] for door in doors))


def slow_part(value):
    """The word that tells what is wrong of a value, None for a fold that has a house."""
    if type(value) is not tuple or len(value) != 2:
        return "whole"
    turns, table = value
    if not are_turns(turns):
        return "turns"
    if type(table) is not tuple or not 1 <= len(table) * len(turns) <= 10:
        return "table"
    for row in table:
        if type(row) is not tuple:
            return "table"
        for item in row:
            if type(item) is not tuple or len(item) != 2 or not is_below(item[0], len(table)):
                return "table"
            if not is_turn(item[1], len(turns[0])) or item[1] not in turns:
                return "table"
    return "table" if slow_unfolded(value) is None else None


def is_below(value, high):
    return type(value) is int and 0 <= value < high


def is_turn(value, size):
    return type(value) is tuple and len(value) == size and all(
        is_below(item, size) for item in value
    ) and sorted(value) == list(range(size))


def are_turns(value):
    if type(value) is not tuple or not 1 <= len(value) <= 10 or type(value[0]) is not tuple:
        return False
    size = len(value[0])
    if not 1 <= size <= 10 or not all(is_turn(turn, size) for turn in value):
        return False
    return value == made_of(*value)


def mixed_folds(many):
    """Some pairs of turns and a table, always the same, picked by a fixed rule; not all of them have a house."""
    state = 4711
    found = []
    for at in range(many):
        turns = GROUPS[at % len(GROUPS)]
        state = (state * 1103515245 + 12345) % 2 ** 31
        kinds = 1 + (state >> 16) % (10 // len(turns))
        table = []
        for _ in range(kinds):
            state = (state * 1103515245 + 12345) % 2 ** 31
            row = []
            for _ in range(1 + (state >> 16) % 3):
                state = (state * 1103515245 + 12345) % 2 ** 31
                row.append(((state >> 12) % kinds, turns[(state >> 20) % len(turns)]))
            table.append(tuple(row))
        found.append((turns, tuple(table)))
    return found


# What may stand at any place of a fold instead of what stands there.
ANYTHING = [
    -1, 0, 1, 2, 3, 10, 10 ** 40, True, False, None, "", "0", "01", (), (0,), (0, 1), (1, 0), (0, 1, 2), ((0, 1),),
    ((),), (0, (0, 1)), (0, (1, 0)), (1, (0, 1)), (True, (1, 0)), (0, (True, False)), (0, [1, 0]), [], [0, 1], [1, 0],
    [0, (1, 0)], {}, {0: 1, 1: 0}, {0: (1, 0)}, samples.deep(3000),
]


def replaced(value):
    """All values that are a tuple but for one place within it, at any depth, or where it lacks or stands twice."""
    for at, item in enumerate(value):
        ahead, rest = value[:at], value[at + 1:]
        for other in ANYTHING:
            yield ahead + (other,) + rest
        yield ahead + rest
        yield ahead + (item, item) + rest
        if isinstance(item, tuple):
            yield ahead + (list(item),) + rest
            yield ahead + (item[::-1],) + rest
            for other in replaced(item):
                yield ahead + (other,) + rest


NO_TURNS = [
    value for value in samples.ANY_VALUES if value != ((0, 1), (1, 0))
] + [
    # No numbers, or of other numbers than those below their number.
    ((),), ((), ()), (None,), ((0,), None), ((1,),), ((0, 2),), ((0, 0),), ((0, 1), (1, 1)), ((0, 1), (1, 2)),
    ((-1, 0),), ((0, True),), ((False,),), ((0, 1), (True, False)), ((0, None),), (("0",),), ("0",), "0",
    ((0, 1), [1, 0]), [(0, 1), (1, 0)], {(0, 1): (1, 0)}, ([0],), (samples.deep(3000),), samples.deep(3000),
    ((0, 10 ** 40),), ((0, (1,)),),
    # Not as many numbers in each.
    ((0,), (0, 1)), ((0, 1), (0, 1, 2)), ((0, 1, 2), (1, 0)),
    # More than ten numbers, or more than ten turns.
    (tuple(range(11)),), made_of(around(11)), made_of((1, 2, 0, 3), (0, 2, 3, 1)), made_of((1, 0, 2, 3), (1, 2, 3, 0)),
    # Not ascending, or some twice.
    ((1, 0), (0, 1)), ((0, 1), (0, 1)), ((0, 1), (0, 1), (1, 0)), ((0, 1), (1, 0), (1, 0)), ((0,), (0,)),
    ((0, 1, 2), (2, 0, 1), (1, 2, 0)), THREE[::-1],
    # Not the one in ascending order among them.
    (), ((1, 0),), ((1, 2, 0), (2, 0, 1)), THREE[1:],
    # One behind another, or behind itself, is not among them.
    ((0, 1, 2), (1, 2, 0)), ((0, 1, 2), (2, 0, 1)), ((0, 1, 2), (0, 2, 1), (1, 0, 2)), ALL_OF_THREE[:-1],
    ALL_OF_THREE[:2] + ALL_OF_THREE[3:], TEN[:-1], TEN[:5], FIVE[:2], ((0, 1, 2, 3), (0, 1, 3, 2), (1, 0, 2, 3)),
]

# Pairs of turns and what is no table for them.
NO_TABLES = [
    (SWAP, value) for value in samples.ANY_VALUES
] + [
    # Of no kind, or of more than ten kinds times turns.
    (STILL, ()), (SWAP, ()), (TEN, ()),
    (STILL, tuple((((kind + 1) % 11, (0,)),) for kind in range(11))),
    (SWAP, tuple((((kind + 1) % 6, (1, 0) if kind == 5 else (0, 1)),) for kind in range(6))),
    (TEN, (((1, around(10)),), ((0, around(10)),))),
    (ALL_OF_THREE, (((1, (0, 2, 1)), (1, (1, 0, 2))), ((0, (0, 2, 1)),))),
    # No tuples for kinds, no pairs for letters.
    (SWAP, [((0, (1, 0)),)]), (SWAP, ([(0, (1, 0))],)), (SWAP, ({0: (0, (1, 0))},)), (SWAP, {0: ((0, (1, 0)),)}),
    (SWAP, (([0, (1, 0)],),)), (SWAP, (((0, (1, 0), 0),),)), (SWAP, (((0,),),)), (SWAP, (((),),)), (SWAP, (("01",),)),
    (SWAP, ((0, (1, 0)),)), (SWAP, (None,)), (SWAP, ((None,),)), (SWAP, (samples.deep(3000),)), (SWAP, ("",)),
    # What is no kind.
    (SWAP, (((1, (1, 0)),),)), (SWAP, (((-1, (1, 0)),),)), (SWAP, (((False, (1, 0)),),)), (SWAP, (((None, (1, 0)),),)),
    (SWAP, (((True, (0, 1)),), ((0, (1, 0)),))), (SWAP, (((2, (0, 1)),), ((0, (1, 0)),))), (SWAP, ((("0", (1, 0)),),)),
    (SWAP, ((((0,), (1, 0)),),)), (SWAP, ((([0], (1, 0)),),)), (SWAP, (((10 ** 40, (1, 0)),),)),
    # What is no turn of the turns.
    (SWAP, (((0, (1,)),),)), (SWAP, (((0, (1, 0, 2)),),)), (SWAP, (((0, [1, 0]),),)), (SWAP, (((0, (True, False)),),)),
    (SWAP, (((0, (1, False)),),)), (SWAP, (((0, 1),),)), (SWAP, (((0, None),),)), (SWAP, (((0, "10"),),)),
    (SWAP, (((0, samples.deep(3000)),),)), (SWAP, (((0, (1, 1)),),)), (SWAP, (((0, {0: 1, 1: 0}),),)),
    (THREE, (((0, (0, 2, 1)),),)), (THREE, (((0, (1, 2, 0)), (0, (1, 0, 2))),)), (ONE_SWAP, (((0, (1, 0, 2)),),)),
    (STILL, (((1, (1,)),), ((0, (0,)),))), (SWAP, (((0, ((1, 0), (0, 1))),),)),
    # A door to its own hall.
    (STILL, (((0, (0,)),),)), (SWAP, (((0, (0, 1)),),)), (SWAP, (((0, (1, 0)), (0, (0, 1))),)),
    (STILL, (((0, (0,)), (1, (0,))), ((0, (0,)),))),
    # Two letters make one door.
    (SWAP, (((0, (1, 0)), (0, (1, 0))),)), (STILL, (((1, (0,)), (1, (0,))), ((0, (0,)),))),
    (THREE, (((0, (1, 2, 0)), (0, (2, 0, 1)), (0, (1, 2, 0))),)), (SWAP, (((0, (1, 0)),) * 1000,)),
    (TEN, (tuple((0, turn) for turn in TEN[1:] + TEN[9:]),)),
    # Some hall can't be come to from another.
    (SWAP, ((),)), (STILL, ((), ())), (STILL, (((1, (0,)),), ())), (STILL, ((), ((0, (0,)),))),
    (SWAP, (((1, (0, 1)),), ((0, (0, 1)),))), (SWAP, (((0, (1, 0)),), ((1, (1, 0)),))),
    (TEN, (((0, around(10, 2)),),)), (TEN, (((0, around(10, 5)), (0, around(10, 5)[::-1])),)),
    (OVER_FIVE, (((0, around(5)),),)), (ALL_OF_THREE, (((0, (1, 2, 0)), (0, (2, 0, 1))),)),
    (FOUR_SWAPS, (((0, (1, 0, 3, 2)),),)),
]
