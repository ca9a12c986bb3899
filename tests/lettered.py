"""Letterings, rows and groups for the tests, and slow plain ways to the same answers."""

from functools import lru_cache
from itertools import combinations, permutations, product

from tests import samples

FOUR = samples.two_way_ring(4)
EVEN_RING = ((0, 0, 0), (0, 1, 1, 0, 0, 1))


def halves(halls):
    """The two-way ring of an even number of halls with two kinds of halls, each side by side with the other."""
    doors = samples.two_way_ring(halls)[1]
    kinds = tuple(hall % 2 for hall in range(halls))
    return kinds, tuple(0 if (other - one) % halls == 1 else 1 for one, other in doors)


def stepped(house, step=1):
    """A lettering with one kind: each door has how much further its hall is, counted around."""
    halls, doors = house
    return (0,) * halls, tuple((other - one) * step % halls for one, other in doors)


def still(house):
    """The plain lettering with as many kinds as halls."""
    halls, doors = house
    return tuple(range(halls)), tuple(
        sum(other[0] == door[0] for other in doors[:at]) for at, door in enumerate(doors)
    )


# Even letterings of many kinds: with few and many kinds, with kinds and letters out of order, with letters 0 and 89.
EVEN = [
    (samples.SINGLE, ((0,), ())),
    (samples.SWAP, ((0, 0), (0, 0))),
    (samples.SWAP, ((1, 1), (89, 89))),
    (samples.SWAP, ((1, 0), (89, 0))),
    (samples.LINE, ((0, 1, 2), (0, 0, 1, 0))),
    (samples.LINE, ((0, 1, 2), (89, 0, 89, 89))),
    (samples.RING, ((0, 0, 0), (7, 7, 7))),
    (samples.RING, ((2, 1, 0), (7, 8, 9))),
    (samples.whole(3), EVEN_RING),
    (samples.EIGHT, still(samples.EIGHT)),
    (FOUR, ((0, 0, 0, 0), (0, 1, 0, 1, 1, 0, 1, 0))),
    (FOUR, ((0, 1, 0, 1), (3, 4, 4, 3, 4, 3, 3, 4))),
    (samples.two_way_ring(10), stepped(samples.two_way_ring(10))),
    (samples.two_way_ring(10), halves(10)),
    (samples.two_way_ring(10), still(samples.two_way_ring(10))),
    (samples.one_way_ring(10), ((9,) * 10, (89,) * 10)),
    (samples.whole(10), stepped(samples.whole(10))),
    (samples.whole(10), still(samples.whole(10))),
    (samples.whole(10), ((0,) * 10, stepped(samples.whole(10), 3)[1])),
    (samples.PETERSEN, still(samples.PETERSEN)),
    (samples.PETERSEN, (
        (4,) * 5 + (2,) * 5,
        tuple(
            89 if abs(one - other) == 5 else (other - one) % 5 for one, other in samples.PETERSEN[1]
        ),
    )),
    (samples.CUBE, ((0,) * 8, tuple(one ^ other for one, other in samples.CUBE[1]))),
    (samples.CUBE, ((3, 3, 4, 4, 4, 4, 3, 3), tuple(one ^ other for one, other in samples.CUBE[1]))),
    (samples.whole(7), stepped(samples.whole(7))),
    (samples.star(10), still(samples.star(10))),
    (samples.row_of(10), still(samples.row_of(10))),
]

# Letterings that are not even, each with the triple of what misleads.
UNEVEN = [
    # The example: halls of one kind come back from one alone.
    (samples.LINE, ((0, 1, 0), (0, 0, 1, 0)), (0, 2, (0, 0))),
    # A row that can be walked from just one of two halls.
    (samples.SWAP, ((0, 0), (0, 1)), (0, 1, (0,))),
    (samples.SWAP, ((0, 0), (89, 0)), (0, 1, (0,))),
    (samples.LINE, ((0, 0, 1), (0, 0, 1, 0)), (0, 1, (1,))),
    (samples.LINE, ((0, 0, 1), (1, 0, 1, 0)), (0, 1, (0,))),
    # Ends of unlike kinds.
    (samples.RING, ((0, 0, 1), (0, 0, 0)), (0, 1, (0,))),
    (samples.RING, ((1, 0, 0), (0, 0, 0)), (1, 2, (0,))),
    (samples.one_way_ring(5), ((0, 1, 0, 1, 0), (3, 3, 3, 3, 3)), (0, 4, (3,))),
    # It comes back from just one of two halls.
    (samples.whole(3), ((0, 0, 0), (0, 1, 0, 1, 0, 1)), (0, 2, (0, 0))),
    (samples.whole(3), ((1, 1, 1), (1, 0, 1, 0, 0, 1)), (0, 1, (0, 0))),
    # Several pairs are misled by one row; the least of them is told.
    (samples.star(5), ((0, 1, 1, 1, 1), (0, 1, 2, 3, 0, 0, 0, 0)), (1, 2, (0, 0))),
    (samples.row_of(4), ((0, 1, 1, 0), (0, 1, 0, 0, 1, 1)), (0, 3, (0,))),
    (samples.row_of(4), ((0, 1, 1, 0), (0, 0, 1, 0, 1, 0)), (1, 2, (0,))),
    # The least of the shortest rows is told, though a lesser pair is misled by another row as short.
    (FOUR, ((0, 0, 1, 1), (0, 2, 0, 3, 0, 1, 0, 2)), (2, 3, (1,))),
    (FOUR, ((0, 1, 0, 1), (0, 1, 0, 1, 0, 1, 0, 1)), (0, 2, (0, 0))),
    (FOUR, ((0, 0, 0, 0), (0, 1, 0, 1, 0, 1, 0, 1)), (0, 2, (0, 0))),
    # Rows of four letters, found by a search through many letterings.
    (
        (8, ((0, 1), (0, 3), (1, 4), (1, 7), (2, 6), (2, 7), (3, 0), (3, 5),
             (4, 5), (4, 6), (5, 2), (5, 4), (6, 0), (6, 2), (7, 1), (7, 3))),
        ((0,) * 8, (1, 0, 1, 0, 0, 1, 0, 1, 0, 1, 1, 0, 1, 0, 0, 1)), (0, 1, (0, 1, 0, 1)),
    ),
    (
        (9, ((0, 3), (0, 4), (1, 6), (1, 8), (2, 0), (2, 7), (3, 7), (3, 8), (4, 2),
             (4, 5), (5, 1), (5, 2), (6, 0), (6, 3), (7, 1), (7, 6), (8, 4), (8, 5))),
        ((0,) * 9, (0, 1, 0, 1, 1, 0, 1, 0, 1, 0, 1, 0, 0, 1, 0, 1, 0, 1)), (0, 4, (0, 0, 1, 1)),
    ),
]


def slow_walk(house, lettering, hall, row):
    """The hall behind a row, by a look at all doors for each letter; None if it can't be walked."""
    for letter in row:
        ends = [other for (one, other), known in zip(house[1], lettering[1]) if one == hall and known == letter]
        if not ends:
            return None
        hall, = ends
    return hall


def slow_misleads(house, lettering, one, other, row):
    """Whether a row misleads from two halls, as point 5 says it."""
    kinds = lettering[0]
    if kinds[one] != kinds[other]:
        return False
    ends = slow_walk(house, lettering, one, row), slow_walk(house, lettering, other, row)
    if None in ends:
        return ends != (None, None)
    return kinds[ends[0]] != kinds[ends[1]] or (ends[0] == one) != (ends[1] == other)


def slow_misled(house, lettering, longest):
    """What misleads, by trial of all rows up to a length; None if none of these does."""
    letters = sorted(set(lettering[1]))
    for size in range(longest + 1):
        for row in product(letters, repeat=size):
            for one, other in combinations(range(house[0]), 2):
                if slow_misleads(house, lettering, one, other, row):
                    return one, other, row
    return None


@lru_cache(maxsize=None)
def cached_symmetries(house):
    return samples.slow_symmetries(house)


def slow_group(house, lettering):
    """The symmetries that lead each door to one of the same letter, out of a hall of the same kind."""
    kinds, letters = lettering
    known = dict(zip(house[1], letters))
    return tuple(
        turn for turn in cached_symmetries(house)
        if all(kinds[turn[hall]] == kinds[hall] for hall in range(house[0]))
        and all(known[turn[one], turn[other]] == known[one, other] for one, other in house[1])
    )


def slow_even(house, lettering):
    """Whether symmetries that keep letters and kinds lead all halls of a kind to one another."""
    kinds = lettering[0]
    group = slow_group(house, lettering)
    return all(
        any(turn[one] == other for turn in group)
        for one, other in combinations(range(house[0]), 2) if kinds[one] == kinds[other]
    )


def slow_plain(house, lettering):
    """The lettering made plain, by lists of what has come so far."""
    kinds, letters = lettering
    order = list(dict.fromkeys(kinds))
    seen = {kind: [] for kind in order}
    found = []
    for (one, _), letter in zip(house[1], letters):
        known = seen[kinds[one]]
        if letter not in known:
            known.append(letter)
        found.append(known.index(letter))
    return tuple(order.index(kind) for kind in kinds), tuple(found)


def is_group(halls, turns):
    """Whether symmetries are a free group, as point 4 says it."""
    rest = tuple(range(halls))
    return rest in turns and all(
        tuple(other[one[hall]] for hall in range(halls)) in turns for one in turns for other in turns
    ) and all(turn == rest or all(turn[hall] != hall for hall in range(halls)) for turn in turns)


def slow_groups(house):
    """The free groups of a house, by trial of all choices of its symmetries."""
    halls = house[0]
    rest = tuple(range(halls))
    movers = [turn for turn in cached_symmetries(house) if all(turn[hall] != hall for hall in range(halls))]
    found = []
    for many in range(halls):
        if halls % (many + 1) == 0:
            for chosen in combinations(movers, many):
                if is_group(halls, (rest,) + chosen):
                    found.append(tuple(sorted((rest,) + chosen)))
    return tuple(sorted(found))


def plain_kinds(halls):
    """All ways to give kinds to halls that are numbered as they come."""
    rows = [()]
    for _ in range(halls):
        rows = [row + (kind,) for row in rows for kind in range(max(row, default=-1) + 2)]
    return rows


def slow_letterings(house):
    """All plain even letterings of a house, by trial.

    In an even lettering all halls of a kind have the same letters, so if it is plain, they are the least numbers.
    """
    halls, doors = house
    many = [sum(one == hall for one, _ in doors) for hall in range(halls)]
    found = []
    for letters in product(*[list(permutations(range(out))) for out in many]):
        for kinds in plain_kinds(halls):
            lettering = kinds, tuple(letter for row in letters for letter in row)
            if slow_plain(house, lettering) == lettering and slow_even(house, lettering):
                found.append(lettering)
    return sorted(found)


def honest(value, many, high):
    """Whether a value is a tuple of so many integers from 0 to a limit, none of them a boolean."""
    if type(value) is not tuple or len(value) != many:
        return False
    return all(type(item) is int and 0 <= item <= high for item in value)


def wrong_letterings(house):
    """Pairs of a value that is no lettering of a house, and the word that tells what is wrong."""
    halls, doors = house
    kinds, letters = still(house)
    whole = [value for value in samples.ANY_VALUES if not (isinstance(value, tuple) and len(value) == 2)] + [
        (kinds,), (kinds, letters, ()), [kinds, letters], {0: kinds, 1: letters}, {kinds: letters}, "01",
        samples.deep(3000),
    ]
    wrong_kinds = [value for value in samples.ANY_VALUES if not honest(value, halls, halls - 1)] + [
        list(kinds), kinds + (0,), kinds[1:], kinds + (None,), samples.deep(3000), "0" * halls,
    ] + [
        kinds[:at] + (wrong,) + kinds[at + 1:]
        for at in {0, halls - 1}
        for wrong in [-1, halls, 10, 10 ** 40, True, False, None, "", "0", (), (0,), [], [0], {}, {0: 0},
                      samples.deep(3000)]
    ]
    wrong_letters = [value for value in samples.ANY_VALUES if not honest(value, len(doors), 89)] + [
        list(letters), letters + (0,), letters + (None,), samples.deep(3000), {at: at for at in range(len(doors))},
    ]
    if doors:
        wrong_letters += [letters[1:], letters[:-1], tuple(list(letters) for _ in doors)] + [
            letters[:at] + (wrong,) + letters[at + 1:]
            for at in {0, len(doors) - 1}
            for wrong in [-1, 90, 10 ** 40, True, False, None, "", "0", (), (0,), [], [0], {}, {0: 0},
                          samples.deep(3000)]
        ]
    if len(doors) > halls:
        # Two doors out of one hall with one letter.
        wrong_letters.append((0,) * len(doors))
        twice = next(at for at in range(len(doors) - 1) if doors[at][0] == doors[at + 1][0])
        wrong_letters.append(letters[:twice + 1] + (letters[twice],) + letters[twice + 2:])
    return (
        [(value, "whole") for value in whole]
        + [((value, good), "kinds") for value in wrong_kinds for good in [letters, None, (-1,) * len(doors)]]
        + [((good, value), "letters") for value in wrong_letters for good in [kinds, (0,) * halls]]
    )


# Pairs of a value that is no row and the index that tells what is wrong.
WRONG_ROWS = [
    (value, None) for value in samples.ANY_VALUES if not isinstance(value, tuple)
] + [
    ([0] * 3, None), ("000", None), ({0: 0, 1: 0}, None), ((0,) * 61, None), ((0,) * 1000, None), ((None,) * 61, None),
    ((True,) + (0,) * 60, None),
] + [
    ((0,) * at + (wrong,) + rest, at)
    for at in [0, 1, 2, 58]
    for rest in [(), (0,), (None,)]
    for wrong in [-1, 90, 10 ** 40, True, False, None, "", "0", (), (0,), [], [0], {}, {0: 0}, samples.deep(3000)]
] + [
    ((0,) * 59 + (90,), 59), ((89, 0, -1, 90), 2), (samples.deep(3000), 0), ((0, 1, "2", "3"), 2),
]

# Values that are no kinds of the ring of three halls with the kinds 0, 0, 0.
NO_NUMBERS = [
    True, False, None, "", "0", "1", "kind", (), (0,), (1,), [], [0], [1], {}, {0: 0}, {1: 1}, samples.deep(3000),
]
