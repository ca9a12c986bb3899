"""Point 4: free groups of houses."""

import copy
import unittest

from letterhalls import groups as groups_file
from letterhalls.errors import BadHouse, TooMany
from letterhalls.groups import free_groups
from letterhalls.symmetries import symmetries
from tests import lettered, samples
from tests.cases import HouseCase
from tests.test_symmetries import ABOVE_720, JUST_720

# Houses of which it is known how many free groups of each size there are.
KNOWN = [
    (samples.SINGLE, {1: 1}),
    (samples.SWAP, {1: 1, 2: 1}),
    (samples.LINE, {1: 1}),
    (samples.RING, {1: 1, 3: 1}),
    (samples.EIGHT, {1: 1}),
    (samples.row_of(4), {1: 1, 2: 1}),
    # Of a row of halls with one in the middle, this one is left.
    (samples.row_of(9), {1: 1}),
    (samples.row_of(10), {1: 1, 2: 1}),
    (samples.star(5), {1: 1}),
    # A one-way ring has just one group of each size.
    (samples.one_way_ring(10), {1: 1, 2: 1, 5: 1, 10: 1}),
    # Around, or about the middle of a side; together with those around two halls further.
    (samples.two_way_ring(4), {1: 1, 2: 3, 4: 2}),
    (samples.two_way_ring(6), {1: 1, 2: 4, 3: 1, 6: 2}),
    (samples.two_way_ring(9), {1: 1, 3: 1, 9: 1}),
    (samples.two_way_ring(10), {1: 1, 2: 6, 5: 1, 10: 2}),
    # All of one size n are those of n symmetries each, 720 / 6 / (those of the group itself) for n = 6.
    (samples.whole(4), {1: 1, 2: 3, 4: 4}),
    (samples.whole(5), {1: 1, 5: 6}),
    (samples.whole(6), {1: 1, 2: 15, 3: 20, 6: 80}),
    # Petersen's house has rings of five halls, but no group of one lot.
    (samples.PETERSEN, {1: 1, 5: 6}),
    (samples.star(7), {1: 1}),
    (samples.parted(3, 5), {1: 1}),
    (samples.parted(2, 2), {1: 1, 2: 3, 4: 2}),
]


class ExampleTests(unittest.TestCase):
    def test_examples_of_the_interface(self):
        ring = (3, ((0, 1), (1, 2), (2, 0)))
        line = (3, ((0, 1), (1, 0), (1, 2), (2, 1)))
        self.assertEqual(free_groups(ring), (((0, 1, 2),), ((0, 1, 2), (1, 2, 0), (2, 0, 1))))
        self.assertEqual(free_groups(line), (((0, 1, 2),),))

    def test_function_is_defined_in_its_file(self):
        self.assertEqual(groups_file.free_groups.__module__, "letterhalls.groups")


class FreeGroupsTests(HouseCase):
    def test_small_houses_by_trial(self):
        for house in samples.small_houses(4):
            self.check_by_trial(house)

    def test_other_houses_by_trial(self):
        houses = samples.HOUSES + samples.mixed_houses(5, 10) + samples.mixed_houses(6, 10)
        for house in houses:
            # The choices of more symmetries than that are too many to try them all.
            if house[0] <= 6 and len(symmetries(house)) <= 24:
                self.check_by_trial(house)

    def check_by_trial(self, house):
        if free_groups(house) != lettered.slow_groups(house):
            self.fail(f"free groups of {house}")

    def test_houses_that_are_known(self):
        for house, known in KNOWN:
            with self.subTest(house):
                found = free_groups(house)
                sizes = [len(group) for group in found]
                self.assertEqual({size: sizes.count(size) for size in sizes}, known)

    def test_each_is_a_free_group(self):
        for house in [house for house, _ in KNOWN] + samples.HOUSES:
            with self.subTest(house):
                found = free_groups(house)
                known = set(symmetries(house))
                self.assertIs(type(found), tuple)
                self.assertEqual(list(found), sorted(set(found)))
                for group in found:
                    self.assertIs(type(group), tuple)
                    self.assertEqual(list(group), sorted(set(group)))
                    self.assertLessEqual(set(group), known)
                    self.assertTrue(lettered.is_group(house[0], group))
                    self.assertEqual(house[0] % len(group), 0)

    def test_the_still_symmetry_alone_is_always_one(self):
        for house in samples.HOUSES:
            self.assertIn((tuple(range(house[0])),), free_groups(house))
        self.assertEqual(free_groups(samples.SINGLE), (((0,),),))

    def test_a_symmetry_that_moves_all_halls_may_leave_some_when_done_twice(self):
        # Two rings of three halls behind one another and two halls that change places: what leads all of them
        # leaves the two halls when done twice.
        house = samples.parted(2, 3)
        self.assertIn((1, 0, 3, 4, 2), symmetries(house))
        self.assertEqual(free_groups(house), (((0, 1, 2, 3, 4),),))

    def test_two_that_move_all_halls_may_make_one_that_does_not(self):
        # Of the ring of four halls, to turn it around by one and about a side leaves halls.
        groups = free_groups(samples.two_way_ring(4))
        self.assertIn(((0, 1, 2, 3), (1, 2, 3, 0), (2, 3, 0, 1), (3, 0, 1, 2)), groups)
        self.assertIn(((0, 1, 2, 3), (1, 0, 3, 2)), groups)
        self.assertIn(((0, 1, 2, 3), (1, 0, 3, 2), (2, 3, 0, 1), (3, 2, 1, 0)), groups)
        self.assertFalse([group for group in groups if (1, 2, 3, 0) in group and (1, 0, 3, 2) in group])

    def test_just_720_symmetries(self):
        for house in JUST_720:
            with self.subTest(house):
                self.assertIn((tuple(range(house[0])),), free_groups(house))
        self.assertEqual(free_groups(samples.TWO_BUNCHES), ((tuple(range(10)),),))

    def test_more_than_720_symmetries_are_too_many(self):
        for at, house in enumerate(ABOVE_720):
            self.check_error(lambda: free_groups(house), at, TooMany, most=720)

    def test_wrong_houses(self):
        for at, (value, part) in enumerate(samples.WRONG_HOUSES):
            self.check_bad_house(lambda: free_groups(value), at, part)

    def test_arguments_are_not_modified(self):
        values = [[2, [[1, 0], [0, 1]]], (2, [[1, 0], [0, 1]]), {0: [1, 0]}]
        kept = copy.deepcopy(values)
        for value in values:
            with self.assertRaises(BadHouse):
                free_groups(value)
        self.assertEqual(values, kept)
        for house in samples.HOUSES:
            kept = copy.deepcopy(house)
            first = free_groups(house)
            self.assertEqual(house, kept)
            self.assertEqual(free_groups(house), first)


if __name__ == "__main__":
    unittest.main()
