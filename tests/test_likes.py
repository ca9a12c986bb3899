"""Point 11: houses that are alike, and the maps that show it."""

import copy
import unittest
from itertools import permutations, product

from letterhalls import likes as likes_file
from letterhalls.errors import BadHouse
from letterhalls.likes import are_alike, like, shows_like
from letterhalls.symmetries import is_symmetry
from tests import samples
from tests.cases import HouseCase
from tests.test_symmetries import ABOVE_720

PRISM = samples.two_way(
    10,
    [(hall, (hall + 1) % 5) for hall in range(5)]
    + [(hall + 5, (hall + 1) % 5 + 5) for hall in range(5)]
    + [(hall, hall + 5) for hall in range(5)],
)
LADDER = samples.two_way(10, [(hall, (hall + 1) % 10) for hall in range(10)] + [(hall, hall + 5) for hall in range(5)])


def without(house, gone):
    """A house without some of its doors."""
    return house[0], tuple(door for door in house[1] if door not in gone)


def rest_of(house):
    """The house of all doors that another lacks."""
    return without(samples.whole(house[0]), house[1])


# Lists of houses of which no two are alike, though all have as many halls and doors.
UNLIKE = [
    [PRISM, LADDER, samples.PETERSEN],
    [rest_of(PRISM), rest_of(LADDER), rest_of(samples.PETERSEN)],
    [samples.row_of(4), samples.star(4)],
    [(3, ((0, 1), (0, 2), (1, 0), (2, 0))), (3, ((0, 1), (0, 2), (1, 2), (2, 0)))],
    # Two rings through hall 0: of three and four halls, of two and five.
    [samples.EIGHT, (6, ((0, 1), (0, 2), (1, 0), (2, 3), (3, 4), (4, 5), (5, 0)))],
    # One house and the same turned about: one door in and many out, many in and one out.
    [(4, ((0, 1), (0, 2), (0, 3), (1, 2), (2, 3), (3, 0))), (4, ((0, 3), (1, 0), (2, 0), (2, 1), (3, 0), (3, 2)))],
    # The whole house of ten halls but for two doors, that lie to one another in each way.
    [without(samples.whole(10), gone) for gone in [
        ((0, 1), (1, 0)), ((0, 1), (1, 2)), ((0, 1), (0, 2)), ((1, 0), (2, 0)), ((0, 1), (2, 3)),
    ]],
    # What is lacking is a ring of ten, two rings of five, and rings of four and six.
    [
        rest_of(samples.two_way_ring(10)),
        rest_of(samples.two_way(10, [(hall, hall // 5 * 5 + (hall + 1) % 5) for hall in range(10)])),
        rest_of(samples.two_way(10, [(hall, (hall + 1) % 4) for hall in range(4)]
                                + [(hall + 4, (hall + 1) % 6 + 4) for hall in range(6)])),
    ],
]


# Values that are nearly the map (0, 2, 1) of three halls.
NEAR_MAPS = [
    samples.deep(3000), (samples.deep(3000),) * 3, [0, 2, 1], "021", {0: 0, 1: 2, 2: 1}, (0, 2, "1"), (0, 2, None),
    (0, 2, (1,)), (0, 2), (0, 2, 1), (0, 2, 1, 3), (0, 2, 2), (0, 2, 3), (0, 2, -1), (-3, -1, -2), (0, 2, 10 ** 40),
    (0, 2, True), (False, 2, 1),
]


def slow_maps(one, other):
    """All maps of one house to another that lead doors to doors and all others to no doors, by trial."""
    if one[0] != other[0]:
        return []
    here, there = set(one[1]), set(other[1])
    pairs = samples.all_doors(one[0])
    return [
        row for row in permutations(range(one[0]))
        if all(((begin, end) in here) == ((row[begin], row[end]) in there) for begin, end in pairs)
    ]


def least_name(house):
    """The least of the houses that are a house with its halls numbered otherwise."""
    return min(samples.renamed(house, names) for names in permutations(range(house[0])))


def others_of(house):
    """Some ways to number the halls of a house otherwise."""
    halls = house[0]
    return [
        tuple(range(halls)), tuple(reversed(range(halls))), tuple(range(0, halls, 2)) + tuple(range(1, halls, 2)),
        tuple((hall + 3) % halls for hall in range(halls)),
        tuple(range(1, halls, 2)) + tuple(reversed(range(0, halls, 2))),
    ]


class LikeCase(HouseCase):
    def check_alike(self, one, other):
        found = like(one, other)
        if type(found) is not tuple or any(type(item) is not int for item in found):
            self.fail(f"{one} {other}: {found}")
        if samples.renamed(one, found) != other or sorted(found) != list(range(one[0])):
            self.fail(f"{one} {other}: {found}")
        self.assertIs(are_alike(one, other), True)
        self.assertIs(shows_like(one, other, found), True)
        self.assertIs(shows_like(one, other, None), False)

    def check_unlike(self, one, other):
        if like(one, other) is not None or are_alike(one, other) is not False:
            self.fail(f"{one} {other}: {like(one, other)}")
        self.assertIs(shows_like(one, other, None), True)
        self.assertIs(shows_like(one, other, tuple(range(one[0]))), False)


class ExampleTests(LikeCase):
    def test_examples_of_the_interface(self):
        one, other = (3, ((0, 1), (1, 2), (2, 0))), (3, ((0, 2), (1, 0), (2, 1)))
        self.assertEqual(
            [are_alike(one, other), shows_like(one, other, (0, 2, 1)), like(one, (2, ((0, 1), (1, 0))))],
            [True, True, None],
        )

    def test_functions_are_defined_in_their_file(self):
        for name in ["like", "are_alike", "shows_like"]:
            self.assertEqual(getattr(likes_file, name).__module__, "letterhalls.likes")


class AlikeTests(LikeCase):
    def test_all_pairs_of_small_houses(self):
        houses = list(samples.small_houses(3))
        for one, other in product(houses, repeat=2):
            maps = slow_maps(one, other)
            if maps:
                self.check_alike(one, other)
            else:
                self.check_unlike(one, other)
            for row in permutations(range(one[0])):
                if shows_like(one, other, row) is not (row in maps):
                    self.fail(f"{one} {other}: {row}")

    def test_houses_of_four_halls(self):
        # There are just 83 of which no two are alike.
        firsts = {}
        for house in samples.small_houses(4):
            if house[0] == 4:
                first = firsts.setdefault(least_name(house), house)
                self.check_alike(first, house)
                self.check_alike(house, first)
        self.assertEqual(len(firsts), 83)
        for one, other in product(firsts.values(), repeat=2):
            if one is not other:
                self.check_unlike(one, other)

    def test_houses_with_halls_numbered_otherwise(self):
        for house in samples.HOUSES + ABOVE_720 + samples.mixed_houses(8, 6) + samples.mixed_houses(10, 6):
            for names in others_of(house):
                if sorted(names) == list(range(house[0])):
                    self.check_alike(house, samples.renamed(house, names))
                    self.check_alike(samples.renamed(house, names), house)
                    self.assertIs(shows_like(house, samples.renamed(house, names), names), True)

    def test_the_map_leads_from_the_one_to_the_other(self):
        one = (4, ((0, 1), (0, 2), (1, 2), (2, 3), (3, 0)))
        names = (1, 2, 3, 0)
        other = samples.renamed(one, names)
        # No other map leads the one to the other, and the map back is another one.
        self.assertEqual(slow_maps(one, other), [names])
        self.assertEqual(like(one, other), names)
        self.assertEqual(like(other, one), (3, 0, 1, 2))
        self.assertIs(shows_like(one, other, names), True)
        self.assertIs(shows_like(other, one, names), False)
        self.assertIs(shows_like(one, other, (3, 0, 1, 2)), False)

    def test_houses_that_are_not_alike(self):
        for houses in UNLIKE:
            self.assertEqual(len({(halls, len(doors)) for halls, doors in houses}), 1)
            for one, other in product(houses, repeat=2):
                for names in others_of(other):
                    if sorted(names) == list(range(other[0])):
                        if one is other:
                            self.check_alike(one, samples.renamed(other, names))
                        else:
                            self.check_unlike(one, samples.renamed(other, names))

    def test_other_numbers_of_halls_or_doors(self):
        for one, other in [
            (samples.SINGLE, samples.SWAP), (samples.SWAP, samples.SINGLE), (samples.RING, samples.SWAP),
            (samples.one_way_ring(9), samples.one_way_ring(10)), (samples.whole(10), samples.whole(9)),
            (samples.RING, samples.LINE), (samples.LINE, samples.whole(3)), (samples.whole(3), samples.LINE),
            # Each door leads to a door, but not the other way about.
            (samples.one_way_ring(10), samples.two_way_ring(10)), (samples.row_of(10), samples.two_way_ring(10)),
            (samples.two_way_ring(10), samples.row_of(10)), (samples.PETERSEN, samples.whole(10)),
        ]:
            self.check_unlike(one, other)

    def test_single_hall(self):
        self.assertEqual(like(samples.SINGLE, samples.SINGLE), (0,))
        self.check_alike(samples.SINGLE, samples.SINGLE)
        self.assertIs(shows_like(samples.SINGLE, samples.SINGLE, (False,)), False)

    def test_a_house_is_alike_to_itself_by_its_symmetries(self):
        for house in samples.HOUSES:
            if house[0] <= 5:
                for row in permutations(range(house[0])):
                    self.assertIs(shows_like(house, house, row), is_symmetry(house, row))


class ShowsLikeTests(LikeCase):
    def test_any_value(self):
        for one, other in [
            (samples.SINGLE, samples.SINGLE), (samples.SWAP, samples.SWAP),
            (samples.RING, (3, ((0, 2), (1, 0), (2, 1)))),
            (samples.LINE, samples.RING), (samples.SWAP, samples.SINGLE), (samples.PETERSEN, PRISM),
        ]:
            maps = slow_maps(one, other) if one[0] < 10 else []
            for value in samples.ANY_VALUES + NEAR_MAPS:
                due = not maps if value is None else any(
                    value == row and all(type(item) is int for item in value) for row in maps
                )
                if shows_like(one, other, value) is not due:
                    self.fail(f"{one} {other}: {value}")

    def test_none_is_shown_only_of_houses_that_are_not_alike(self):
        self.assertIs(shows_like(samples.PETERSEN, PRISM, None), True)
        self.assertIs(shows_like(PRISM, PRISM, None), False)
        self.assertIs(shows_like(PRISM, PRISM, ()), False)
        self.assertIs(shows_like(PRISM, LADDER, False), False)


class WrongArgumentTests(LikeCase):
    def test_wrong_houses(self):
        for at, (value, part) in enumerate(samples.WRONG_HOUSES):
            for good in [samples.SWAP, samples.SINGLE]:
                self.check_both(at, value, good, part)
                self.check_both(at, good, value, part)

    def check_both(self, at, one, other, part):
        self.check_error(lambda: like(one, other), at, BadHouse, part=part)
        self.check_error(lambda: are_alike(one, other), at, BadHouse, part=part)
        for value in [None, (0, 1), []]:
            self.check_error(lambda: shows_like(one, other, value), at, BadHouse, part=part)

    def test_order_of_errors(self):
        wrong = [(value, BadHouse, {"part": part}) for value, part in [
            (None, "whole"), ((0, ()), "halls"), ((2, ((0, 1),)), "doors"), ([], "whole"),
        ]]
        self.check_order(like, [samples.SWAP, samples.LINE], [wrong, wrong])
        self.check_order(are_alike, [samples.SWAP, samples.LINE], [wrong, wrong])
        for value in [None, (0, 1), [], samples.deep(3000)]:
            self.check_order(shows_like, [samples.SWAP, samples.LINE, value], [wrong, wrong, []])

    def test_arguments_are_not_modified(self):
        value = [[0, 1], {0: [0]}, (0, [1])]
        kept = copy.deepcopy(value)
        for called in [
            lambda: like(value, value), lambda: like(samples.SWAP, value), lambda: are_alike(samples.SWAP, value),
            lambda: shows_like(samples.SWAP, value, value), lambda: shows_like(value, value, value),
        ]:
            with self.assertRaises(BadHouse):
                called()
        self.assertIs(shows_like(samples.SWAP, samples.SWAP, value), False)
        self.assertEqual(value, kept)
        for house in samples.HOUSES:
            kept = copy.deepcopy(house)
            like(house, house), are_alike(house, house), shows_like(house, house, (0,))
            self.assertEqual(house, kept)


if __name__ == "__main__":
    unittest.main()
