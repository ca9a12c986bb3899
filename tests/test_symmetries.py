"""Point 3: symmetries of houses and their lots of halls."""

import copy
import unittest
from itertools import permutations

from letterhalls import symmetries as symmetries_file
from letterhalls.errors import BadHouse, TooMany
from letterhalls.symmetries import is_symmetry, lots, symmetries
from tests import samples
from tests.cases import HouseCase

# Houses whose symmetries and lots are known without trial of all rows.
KNOWN = [
    (samples.one_way_ring(10), 10, 1),
    (samples.two_way_ring(10), 20, 1),
    (samples.PETERSEN, 120, 1),
    (samples.CUBE, 48, 1),
    (samples.row_of(10), 2, 5),
    (samples.EIGHT, 1, 6),
    (samples.parted(3, 4), 144, 2),
    (samples.whole(5), 120, 1),
]
JUST_720 = [
    samples.whole(6),
    samples.star(7),
    samples.TWO_BUNCHES,
    samples.parted(3, 5),
    samples.two_way(8, [(one, other) for one in range(7) for other in range(one)] + [(6, 7)]),
]
ABOVE_720 = [
    samples.whole(7), samples.whole(8), samples.whole(9), samples.whole(10), samples.star(8), samples.star(10),
    samples.FOUR_PAIRS, samples.parted(4, 4), samples.parted(5, 5), samples.parted(2, 6),
]


class ExampleTests(unittest.TestCase):
    def test_examples_of_the_interface(self):
        line = (3, ((0, 1), (1, 0), (1, 2), (2, 1)))
        self.assertEqual(symmetries(line), ((0, 1, 2), (2, 1, 0)))
        self.assertEqual(lots(line), ((0, 2), (1,)))
        self.assertIs(is_symmetry(line, (1, 0, 2)), False)

    def test_functions_are_defined_in_their_file(self):
        for name in ["symmetries", "lots", "is_symmetry"]:
            self.assertEqual(getattr(symmetries_file, name).__module__, "letterhalls.symmetries")


class SymmetriesTests(unittest.TestCase):
    def test_single_hall(self):
        self.assertEqual(symmetries((1, ())), ((0,),))
        self.assertEqual(lots((1, ())), ((0,),))

    def test_small_houses_by_trial(self):
        for house in samples.small_houses(4):
            self.check_by_trial(house)

    def test_other_houses_by_trial(self):
        for house in samples.HOUSES:
            if house[0] <= 7:
                self.check_by_trial(house)
        for halls in [5, 6, 7]:
            for house in samples.mixed_houses(halls, 12):
                self.check_by_trial(house)

    def check_by_trial(self, house):
        if symmetries(house) != samples.slow_symmetries(house):
            self.fail(f"symmetries of {house}")
        if lots(house) != samples.slow_lots(house):
            self.fail(f"lots of {house}")

    def test_houses_that_are_known(self):
        for house, many, many_lots in KNOWN:
            with self.subTest(house):
                found = symmetries(house)
                self.assertEqual(len(found), many)
                self.check_rows(house, found)
                self.assertEqual(len(lots(house)), many_lots)

    def check_rows(self, house, found):
        self.assertIs(type(found), tuple)
        self.assertEqual(list(found), sorted(set(found)))
        self.assertEqual(found[0], tuple(range(house[0])))
        for row in found:
            self.assertIs(type(row), tuple)
            self.assertEqual(sorted(row), list(range(house[0])))
            self.assertEqual(sorted((row[one], row[other]) for one, other in house[1]), list(house[1]))

    def test_one_way_rings_are_not_turned_about(self):
        self.assertEqual(symmetries(samples.RING), ((0, 1, 2), (1, 2, 0), (2, 0, 1)))
        self.assertEqual(symmetries(samples.one_way_ring(4)), ((0, 1, 2, 3), (1, 2, 3, 0), (2, 3, 0, 1), (3, 0, 1, 2)))

    def test_a_symmetry_tells_where_halls_are_led(self):
        # Of a ring in other order than that of the numbers: hall 0 leads to 2, 2 to 1, 1 to 3, 3 to 0.
        ring = (4, ((0, 2), (1, 3), (2, 1), (3, 0)))
        self.assertEqual(symmetries(ring), ((0, 1, 2, 3), (1, 0, 3, 2), (2, 3, 1, 0), (3, 2, 0, 1)))

    def test_still_one_alone(self):
        self.assertEqual(symmetries(samples.EIGHT), ((0, 1, 2, 3, 4, 5),))
        self.assertEqual(lots(samples.EIGHT), ((0,), (1,), (2,), (3,), (4,), (5,)))


class LotsTests(unittest.TestCase):
    def test_lots_of_ordinary_houses(self):
        self.assertEqual(lots(samples.SWAP), ((0, 1),))
        self.assertEqual(lots(samples.RING), ((0, 1, 2),))
        self.assertEqual(lots(samples.star(5)), ((0,), (1, 2, 3, 4)))
        self.assertEqual(lots(samples.parted(2, 3)), ((0, 1), (2, 3, 4)))
        self.assertEqual(lots(samples.row_of(10)), ((0, 9), (1, 8), (2, 7), (3, 6), (4, 5)))
        self.assertEqual(lots(samples.renamed(samples.row_of(4), (2, 0, 3, 1))), ((0, 3), (1, 2)))
        self.assertEqual(lots(samples.PETERSEN), (tuple(range(10)),))

    def test_equal_halls_need_not_be_of_one_lot(self):
        # Each hall has two doors out and two in, but only some lie on a ring of three.
        house = samples.two_way(7, [(0, 1), (1, 2), (2, 0), (3, 4), (4, 5), (5, 6), (6, 3)] + [(0, 3)])
        self.assertEqual(lots(house), ((0,), (1, 2), (3,), (4, 6), (5,)))

    def test_kinds_of_the_answer(self):
        for house in samples.HOUSES:
            with self.subTest(house):
                found = lots(house)
                self.assertIs(type(found), tuple)
                self.assertTrue(all(type(lot) is tuple and list(lot) == sorted(lot) for lot in found))
                self.assertEqual(list(found), sorted(found))
                self.assertEqual(sorted(hall for lot in found for hall in lot), list(range(house[0])))


class TooManyTests(unittest.TestCase):
    def test_just_720_are_told(self):
        for house in JUST_720:
            with self.subTest(house):
                found = symmetries(house)
                self.assertEqual(len(found), 720)
                self.assertEqual(list(found), sorted(set(found)))
                self.assertTrue(all(is_symmetry(house, row) for row in found))
        self.assertEqual(symmetries(samples.whole(6)), tuple(permutations(range(6))))

    def test_lots_of_just_720(self):
        self.assertEqual(lots(samples.whole(6)), ((0, 1, 2, 3, 4, 5),))
        self.assertEqual(lots(samples.star(7)), ((0,), (1, 2, 3, 4, 5, 6)))
        self.assertEqual(lots(samples.parted(3, 5)), ((0, 1, 2), (3, 4, 5, 6, 7)))
        self.assertEqual(lots(samples.TWO_BUNCHES), ((0,), (1, 2, 3), (4, 5, 6, 7, 8), (9,)))
        self.assertEqual(lots(JUST_720[4]), ((0, 1, 2, 3, 4, 5), (6,), (7,)))

    def test_more_are_too_many(self):
        for house in ABOVE_720:
            for called in [symmetries, lots]:
                with self.subTest(house, called=called.__name__):
                    with self.assertRaises(TooMany) as caught:
                        called(house)
                    self.assertEqual(caught.exception.most, 720)

    def test_too_many_for_houses_alone(self):
        for value in [(7, list(samples.whole(7)[1])), (8, samples.whole(7)[1]), list(samples.whole(7)),
                      (10, samples.whole(10)[1] + ((9, 10),))]:
            for called in [symmetries, lots]:
                with self.subTest(value, called=called.__name__), self.assertRaises(BadHouse):
                    called(value)

    def test_is_symmetry_knows_no_bound(self):
        for house in ABOVE_720:
            still = tuple(range(house[0]))
            with self.subTest(house):
                self.assertIs(is_symmetry(house, still), True)
                self.assertIs(is_symmetry(house, still[1:]), False)
        self.assertIs(is_symmetry(samples.whole(10), (9, 8, 7, 6, 5, 4, 3, 2, 1, 0)), True)
        self.assertIs(is_symmetry(samples.star(10), (1, 0, 2, 3, 4, 5, 6, 7, 8, 9)), False)
        self.assertIs(is_symmetry(samples.star(10), (0, 2, 3, 4, 5, 6, 7, 8, 9, 1)), True)


class IsSymmetryTests(unittest.TestCase):
    def test_all_rows_of_halls(self):
        for house in samples.HOUSES + samples.mixed_houses(5, 10):
            if house[0] <= 6:
                known = samples.slow_symmetries(house)
                for row in permutations(range(house[0])):
                    self.assertIs(is_symmetry(house, row), row in known)

    def test_larger_houses(self):
        for house in [samples.PETERSEN, samples.CUBE, samples.row_of(10), samples.one_way_ring(10)]:
            for row in symmetries(house):
                self.assertIs(is_symmetry(house, row), True)
                self.assertIs(is_symmetry(house, list(row)), False)
                self.assertIs(is_symmetry(house, (row[1], row[0]) + row[2:]), False)

    def test_any_value(self):
        known = {house: symmetries(house) for house in [samples.SINGLE, samples.SWAP, samples.LINE, samples.RING]}
        for house, rows in known.items():
            for value in samples.ANY_VALUES:
                honest = isinstance(value, tuple) and all(type(item) is int for item in value)
                with self.subTest(house, value=value):
                    self.assertIs(is_symmetry(house, value), honest and value in rows)

    def test_other_values_at_a_place(self):
        for wrong in [True, False, None, "", "0", "1", -1, -2, 2, 10 ** 40, (), (0,), (1,), [], [0], [1], {}, {0: 1},
                      samples.deep(3000)]:
            with self.subTest(wrong=str(wrong)[:20] if type(wrong) is not tuple else len(wrong)):
                self.assertIs(is_symmetry(samples.SINGLE, (wrong,)), False)
                self.assertIs(is_symmetry(samples.SWAP, (wrong, 0)), False)
                self.assertIs(is_symmetry(samples.SWAP, (wrong, 1)), False)
                self.assertIs(is_symmetry(samples.SWAP, (0, wrong)), False)
                self.assertIs(is_symmetry(samples.SWAP, (1, wrong)), False)

    def test_rows_of_another_length_or_with_a_hall_twice(self):
        for value in [(), (0,), (0, 1), (0, 1, 2, 3), (2, 1, 0, 0), (0, 0, 0), (1, 1, 1), (0, 1, 0), (0, 1, 1),
                      (0, 1, -1), (0, 1, 3), (-3, -2, -1), (2, 1, 0, 3)]:
            with self.subTest(value):
                self.assertIs(is_symmetry(samples.LINE, value), False)
                self.assertIs(is_symmetry(samples.RING, value), False)

    def test_each_hall_once_even_if_doors_are_led_to_doors(self):
        # The outer halls of a line may be folded onto one another: doors are led to doors, but it is no symmetry.
        self.assertIs(is_symmetry(samples.LINE, (0, 1, 0)), False)
        self.assertIs(is_symmetry(samples.row_of(4), (0, 1, 0, 1)), False)

    def test_values_of_no_depth_limit(self):
        self.assertIs(is_symmetry(samples.SINGLE, samples.deep(3000)), False)
        self.assertIs(is_symmetry(samples.SWAP, (samples.deep(3000), samples.deep(3000))), False)


class WrongHouseTests(HouseCase):
    def test_each_word(self):
        for at, (value, part) in enumerate(samples.WRONG_HOUSES):
            self.check_bad_house(lambda: symmetries(value), at, part)
            self.check_bad_house(lambda: lots(value), at, part)
            self.check_bad_house(lambda: is_symmetry(value, (0,)), at, part)

    def test_the_house_comes_ahead_of_the_other_value(self):
        for at, (value, part) in enumerate(samples.WRONG_HOUSES[::5]):
            for other in samples.ANY_VALUES:
                self.check_bad_house(lambda: is_symmetry(value, other), at, part)

    def test_arguments_are_not_modified(self):
        values = [[2, [[1, 0], [0, 1]]], (2, [[1, 0], [0, 1]]), [2, 0, 1], {0: [1, 0]}, ([1], [0])]
        kept = copy.deepcopy(values)
        for value in values:
            for called in [symmetries, lots]:
                with self.assertRaises(BadHouse):
                    called(value)
            self.assertIs(is_symmetry(samples.LINE, value), False)
        self.assertEqual(values, kept)
        for house in samples.HOUSES:
            kept = copy.deepcopy(house)
            symmetries(house), lots(house), is_symmetry(house, tuple(range(house[0])))
            self.assertEqual(house, kept)


if __name__ == "__main__":
    unittest.main()
