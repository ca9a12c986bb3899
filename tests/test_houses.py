"""Point 2: houses, their doors and how far their halls are from one another."""

import copy
import unittest

from letterhalls import houses
from letterhalls.errors import BadHall, BadHouse
from letterhalls.houses import doors_out, far, is_house, is_two_way, turned
from tests import samples
from tests.cases import HouseCase


class ExampleTests(unittest.TestCase):
    def test_examples_of_the_interface(self):
        line = (3, ((0, 1), (1, 0), (1, 2), (2, 1)))
        self.assertEqual(doors_out(line, 1), (0, 2))
        self.assertEqual(far(line, 0, 2), 2)
        self.assertIs(is_two_way(line), True)
        self.assertEqual(turned((3, ((0, 1), (1, 2), (2, 0)))), (3, ((0, 2), (1, 0), (2, 1))))
        self.assertIs(is_house((2, ((0, 1),))), False)
        with self.assertRaises(BadHall):
            far((2, ((0, 1), (1, 0))), 0, 2)

    def test_functions_are_defined_in_their_file(self):
        for name in ["is_house", "is_two_way", "doors_out", "far", "turned"]:
            self.assertEqual(getattr(houses, name).__module__, "letterhalls.houses")


class IsHouseTests(unittest.TestCase):
    def test_houses_are_houses(self):
        for house in samples.HOUSES:
            with self.subTest(house):
                self.assertIs(is_house(house), True)

    def test_house_of_one_hall(self):
        self.assertIs(is_house((1, ())), True)

    def test_houses_of_all_sizes(self):
        for halls in range(1, 11):
            with self.subTest(halls):
                self.assertIs(is_house(samples.whole(halls)), True)
                if halls > 1:
                    self.assertIs(is_house(samples.one_way_ring(halls)), True)
                    self.assertIs(is_house(samples.two_way_ring(halls)), True)
        self.assertIs(is_house(samples.one_way_ring(11)), False)
        self.assertIs(is_house(samples.whole(11)), False)
        self.assertIs(is_house((0, ())), False)

    def test_any_other_value_is_none(self):
        for value in samples.ANY_VALUES:
            with self.subTest(value=value):
                self.assertIs(is_house(value), False)
        for at, (value, part) in enumerate(samples.WRONG_HOUSES):
            with self.subTest(at=at, part=part):
                self.assertIs(is_house(value), False)

    def test_each_hall_must_be_come_to_from_each_other_one(self):
        for halls in [1, 2, 3, 4]:
            for doors in samples.door_tuples(halls):
                table = samples.slow_steps(halls, doors)
                joined = all(steps is not None for row in table for steps in row)
                if is_house((halls, doors)) is not joined:
                    self.fail(f"{(halls, doors)}: {joined}")

    def test_a_ring_without_a_door_is_none(self):
        for halls in range(2, 11):
            doors = samples.one_way_ring(halls)[1]
            for place in range(halls):
                with self.subTest(halls=halls, place=place):
                    self.assertIs(is_house((halls, doors[:place] + doors[place + 1:])), False)


class DoorsOutTests(unittest.TestCase):
    def test_doors_of_each_hall(self):
        for house in samples.HOUSES + samples.mixed_houses(10, 20):
            for hall in range(house[0]):
                with self.subTest(house, hall=hall):
                    expected = tuple(sorted(other for one, other in house[1] if one == hall))
                    self.assertEqual(doors_out(house, hall), expected)
                    self.assertIsInstance(doors_out(house, hall), tuple)

    def test_doors_in_do_not_count(self):
        self.assertEqual([doors_out(samples.RING, hall) for hall in range(3)], [(1,), (2,), (0,)])
        self.assertEqual([doors_out(samples.EIGHT, hall) for hall in (0, 1, 5)], [(1, 3), (2,), (0,)])

    def test_many_doors_come_ascending(self):
        self.assertEqual(doors_out(samples.whole(10), 4), (0, 1, 2, 3, 5, 6, 7, 8, 9))
        self.assertEqual(doors_out(samples.whole(10), 9), (0, 1, 2, 3, 4, 5, 6, 7, 8))

    def test_single_hall_has_none(self):
        self.assertEqual(doors_out(samples.SINGLE, 0), ())

    def test_wrong_halls(self):
        for house in [samples.SINGLE, samples.SWAP, samples.LINE, samples.PETERSEN]:
            for at, hall in enumerate(samples.wrong_halls(house)):
                with self.subTest(house, at=at), self.assertRaises(BadHall):
                    doors_out(house, hall)


class FarTests(unittest.TestCase):
    def test_ways_through_ordinary_houses(self):
        for house in samples.HOUSES + samples.mixed_houses(7, 20) + samples.mixed_houses(10, 20):
            self.check_all(house)

    def test_ways_through_all_small_houses(self):
        for halls in [1, 2, 3, 4]:
            for doors in samples.door_tuples(halls):
                if is_house((halls, doors)):
                    self.check_all((halls, doors))

    def check_all(self, house):
        halls = range(house[0])
        found = [[far(house, one, other) for other in halls] for one in halls]
        if found != samples.slow_steps(*house):
            self.fail(f"{house}: {found}")

    def test_to_the_same_hall_no_door_leads(self):
        for house in samples.HOUSES:
            for hall in range(house[0]):
                self.assertEqual(far(house, hall, hall), 0)
                self.assertIs(type(far(house, hall, hall)), int)

    def test_the_way_about_may_be_longer(self):
        ring = samples.one_way_ring(10)
        self.assertEqual([far(ring, 0, 1), far(ring, 1, 0), far(ring, 3, 8), far(ring, 8, 3)], [1, 9, 5, 5])
        self.assertEqual([far(samples.EIGHT, 1, 5), far(samples.EIGHT, 5, 1)], [5, 2])
        self.assertEqual(far(samples.row_of(10), 9, 0), 9)

    def test_wrong_halls(self):
        for house in [samples.SINGLE, samples.SWAP, samples.LINE, samples.PETERSEN]:
            for at, hall in enumerate(samples.wrong_halls(house)):
                with self.subTest(house, at=at):
                    with self.assertRaises(BadHall):
                        far(house, hall, 0)
                    with self.assertRaises(BadHall):
                        far(house, 0, hall)
                    with self.assertRaises(BadHall):
                        far(house, hall, hall)


class TurnedTests(unittest.TestCase):
    def test_each_door_the_other_way_about(self):
        for house in samples.HOUSES + samples.mixed_houses(10, 20):
            with self.subTest(house):
                found = turned(house)
                self.assertEqual(found, (house[0], tuple(sorted((other, one) for one, other in house[1]))))
                self.assertIs(type(found), tuple)
                self.assertIs(type(found[1]), tuple)
                self.assertTrue(all(type(door) is tuple for door in found[1]))
                self.assertIs(is_house(found), True)

    def test_twice_turned_is_the_same(self):
        for house in samples.HOUSES:
            self.assertEqual(turned(turned(house)), house)

    def test_single_hall(self):
        self.assertEqual(turned((1, ())), (1, ()))


class IsTwoWayTests(unittest.TestCase):
    def test_two_way_houses(self):
        for house in [samples.SINGLE, samples.SWAP, samples.LINE, samples.PETERSEN, samples.CUBE,
                      samples.row_of(10), samples.star(5), samples.whole(10), samples.two_way_ring(10)]:
            with self.subTest(house):
                self.assertIs(is_two_way(house), True)

    def test_other_houses(self):
        for house in [samples.RING, samples.EIGHT, samples.one_way_ring(10), samples.TWO_BUNCHES,
                      (3, ((0, 1), (0, 2), (1, 0), (2, 1))), (3, ((0, 1), (1, 0), (1, 2), (2, 0), (2, 1)))]:
            with self.subTest(house):
                self.assertIs(is_two_way(house), False)

    def test_alike_is_not_the_same(self):
        self.assertEqual(turned(samples.RING), samples.renamed(samples.RING, (0, 2, 1)))
        self.assertIs(is_two_way(samples.RING), False)

    def test_all_small_houses(self):
        for doors in samples.door_tuples(4):
            if is_house((4, doors)):
                expected = all((other, one) in doors for one, other in doors)
                if is_two_way((4, doors)) is not expected:
                    self.fail(f"{doors}: {expected}")


class WrongHouseTests(HouseCase):
    def test_each_word(self):
        for at, (value, part) in enumerate(samples.WRONG_HOUSES):
            self.check_bad_house(lambda: doors_out(value, 0), at, part)
            self.check_bad_house(lambda: far(value, 0, 0), at, part)
            self.check_bad_house(lambda: turned(value), at, part)
            self.check_bad_house(lambda: is_two_way(value), at, part)

    def test_the_house_comes_ahead_of_the_halls(self):
        for at, (value, part) in enumerate(samples.WRONG_HOUSES):
            for hall in [-1, 11, True, None, "0", (), [], {}]:
                self.check_bad_house(lambda: doors_out(value, hall), at, part)
                self.check_bad_house(lambda: far(value, hall, 0), at, part)
                self.check_bad_house(lambda: far(value, 0, hall), at, part)
                self.check_bad_house(lambda: far(value, hall, hall), at, part)

    def test_the_first_word_is_told(self):
        self.check_bad_house(lambda: turned((0, [])), "halls and doors", "halls")
        self.check_bad_house(lambda: turned([0, []]), "all three", "whole")
        self.check_bad_house(lambda: turned((True, ((0, 0),))), "halls and doors", "halls")
        self.check_bad_house(lambda: turned((11, ())), "halls and doors", "halls")

    def test_arguments_are_not_modified(self):
        values = [[2, [[1, 0], [0, 1]]], {"halls": [2], "doors": [[1, 0]]}, (2, [[1, 0], [0, 1]]), ([2], {0: [1]})]
        kept = copy.deepcopy(values)
        for value in values:
            is_house(value)
            for called in [turned, is_two_way]:
                with self.assertRaises(BadHouse):
                    called(value)
            with self.assertRaises(BadHouse):
                doors_out(value, value)
            with self.assertRaises(BadHouse):
                far(value, value, value)
        self.assertEqual(values, kept)
        hall = [0, {1: [2]}]
        with self.assertRaises(BadHall):
            far(samples.LINE, 0, hall)
        self.assertEqual(hall, [0, {1: [2]}])

    def test_houses_are_not_modified(self):
        for house in samples.HOUSES:
            kept = copy.deepcopy(house)
            doors_out(house, 0), far(house, 0, 0), turned(house), is_two_way(house), is_house(house)
            self.assertEqual(house, kept)


if __name__ == "__main__":
    unittest.main()
