"""Point 8: where rows of letters end, and when they come back."""

import copy
import unittest
from itertools import product

from letterhalls import walks as walks_file
from letterhalls.errors import BadHall, BadHouse, BadKind, BadLettering, BadNumber, BadRow, NotEven
from letterhalls.walks import comes_back, could_be, count_back, shortest_back, walk
from tests import lettered, samples
from tests.cases import HouseCase

WHOLE = samples.whole(3)
RING = samples.two_way_ring(10)
AROUND = lettered.stepped(RING)
# Letterings of one house where some rows can be walked from some halls alone.
SOME = [
    (samples.LINE, ((0, 1, 2), (0, 0, 1, 0))),
    (samples.LINE, ((0, 1, 0), (5, 0, 1, 5))),
    (samples.EIGHT, ((0,) * 6, (3, 2, 1, 0, 1, 2, 3))),
    (samples.SWAP, ((0, 0), (89, 0))),
    (WHOLE, lettered.EVEN_RING),
    (lettered.FOUR, ((0, 0, 0, 0), (0, 1, 0, 1, 0, 1, 0, 1))),
    (samples.SINGLE, ((0,), ())),
]


def rows_of(letters, longest):
    return [row for size in range(longest + 1) for row in product(letters, repeat=size)]


def is_same(one, other):
    """Whether two values are equal and of one kind, so that True is not 1."""
    return one == other and type(one) is type(other)


class ExampleTests(HouseCase):
    def test_examples_of_the_interface(self):
        ring = (3, ((0, 1), (0, 2), (1, 0), (1, 2), (2, 0), (2, 1)))
        even = ((0, 0, 0), (0, 1, 1, 0, 0, 1))
        self.assertEqual(walk(ring, even, 1, (0, 0)), 0)
        self.assertEqual(could_be(ring, even, (0,)), (0, 1, 2))
        self.assertIs(comes_back(ring, even, 0, (0, 1)), True)
        self.assertEqual(count_back(ring, even, 0, 3), 2)
        self.assertEqual(shortest_back(ring, even, 0), (0, 1))
        line = (3, ((0, 1), (1, 0), (1, 2), (2, 1)))
        self.check_error(lambda: comes_back(line, ((0, 1, 0), (0, 0, 1, 0)), 0, (0,)), 0, NotEven)

    def test_functions_are_defined_in_their_file(self):
        for name in ["walk", "could_be", "comes_back", "count_back", "shortest_back"]:
            self.assertEqual(getattr(walks_file, name).__module__, "letterhalls.walks")


class WalkTests(unittest.TestCase):
    def test_walks_by_trial(self):
        for house, lettering in SOME:
            for row in rows_of(sorted(set(lettering[1]) | {7}), 4):
                for hall in range(house[0]):
                    if not is_same(walk(house, lettering, hall, row), lettered.slow_walk(house, lettering, hall, row)):
                        self.fail(f"{house} {lettering} from {hall}: {row}")

    def test_the_void_row_stays(self):
        for house, lettering in lettered.EVEN:
            for hall in range(house[0]):
                self.assertEqual(walk(house, lettering, hall, ()), hall)

    def test_rows_of_sixty_letters(self):
        self.assertEqual(walk(samples.RING, ((0, 0, 0), (7, 7, 7)), 1, (7,) * 60), 1)
        self.assertEqual(walk(RING, AROUND, 0, (1,) * 59), 9)
        self.assertEqual(walk(RING, AROUND, 3, (1, 1, 9, 1) * 15), 3)
        self.assertEqual(walk(RING, AROUND, 3, (1, 1, 1, 1) * 15), 3)
        self.assertIsNone(walk(RING, AROUND, 3, (1,) * 59 + (2,)))
        self.assertIsNone(walk(RING, AROUND, 3, (2,) + (1,) * 59))

    def test_rows_that_cannot_be_walked(self):
        line, lettering = samples.LINE, ((0, 1, 2), (0, 0, 1, 0))
        self.assertEqual([walk(line, lettering, hall, (1,)) for hall in range(3)], [None, 2, None])
        self.assertEqual([walk(line, lettering, hall, (0, 1)) for hall in range(3)], [2, None, 2])
        self.assertIsNone(walk(samples.SINGLE, ((0,), ()), 0, (0,)))
        self.assertEqual(walk(samples.SINGLE, ((0,), ()), 0, ()), 0)

    def test_letters_0_and_89(self):
        self.assertEqual(walk(samples.SWAP, ((0, 0), (89, 0)), 0, (89, 0, 89)), 1)
        self.assertIsNone(walk(samples.SWAP, ((0, 0), (89, 0)), 0, (0,)))
        self.assertIsNone(walk(samples.SWAP, ((0, 0), (89, 0)), 0, (89, 89)))


class CouldBeTests(unittest.TestCase):
    def test_ends_by_trial(self):
        for house, lettering in SOME:
            for row in rows_of(sorted(set(lettering[1]) | {7}), 4):
                ends = {lettered.slow_walk(house, lettering, hall, row) for hall in range(house[0])} - {None}
                if not is_same(could_be(house, lettering, row), tuple(sorted(ends))):
                    self.fail(f"{house} {lettering}: {row}")

    def test_the_void_row_can_end_anywhere(self):
        for house, lettering in lettered.EVEN:
            self.assertEqual(could_be(house, lettering, ()), tuple(range(house[0])))

    def test_halls_that_come_together(self):
        line, lettering = samples.LINE, ((0, 1, 2), (0, 0, 1, 0))
        self.assertEqual([could_be(line, lettering, row) for row in [(0,), (1,), (0, 0), (0, 1), (1, 1)]],
                         [(0, 1), (2,), (0, 1), (2,), ()])

    def test_rows_of_sixty_letters(self):
        self.assertEqual(could_be(RING, AROUND, (1, 9) * 30), tuple(range(10)))
        self.assertEqual(could_be(samples.LINE, ((0, 1, 2), (0, 0, 1, 0)), (0, 1) * 30), (2,))
        self.assertEqual(could_be(RING, AROUND, (1, 9) * 29 + (1, 8)), ())


class ComesBackTests(unittest.TestCase):
    def test_rows_by_trial(self):
        for house, lettering in lettered.EVEN:
            letters = sorted(set(lettering[1]) | {7})[:4]
            for hall, kind in enumerate(lettering[0]):
                for row in rows_of(letters, 3 if len(house[1]) <= 20 else 2):
                    end = lettered.slow_walk(house, lettering, hall, row)
                    if comes_back(house, lettering, kind, row) is not (None if end is None else end == hall):
                        self.fail(f"{house} {lettering} {kind}: {row}")

    def test_the_void_row_comes_back(self):
        for house, lettering in lettered.EVEN:
            for kind in lettering[0]:
                self.assertIs(comes_back(house, lettering, kind, ()), True)

    def test_rows_of_sixty_letters(self):
        self.assertIs(comes_back(RING, AROUND, 0, (1,) * 60), True)
        self.assertIs(comes_back(RING, AROUND, 0, (1,) * 59), False)
        self.assertIs(comes_back(RING, AROUND, 0, (1,) * 58 + (9, 9)), False)
        self.assertIsNone(comes_back(RING, AROUND, 0, (1,) * 59 + (2,)))

    def test_kinds_are_not_alike(self):
        row, lettering = samples.row_of(4), ((3, 1, 1, 3), (5, 5, 7, 7, 5, 5))
        self.assertIs(comes_back(row, lettering, 3, (5, 5)), True)
        self.assertIs(comes_back(row, lettering, 1, (5, 5)), True)
        self.assertIs(comes_back(row, lettering, 1, (7,)), False)
        self.assertIs(comes_back(row, lettering, 1, (7, 7)), True)
        self.assertIsNone(comes_back(row, lettering, 3, (7,)))


class CountBackTests(unittest.TestCase):
    def test_counts_by_trial(self):
        for house, lettering in lettered.EVEN:
            if len(house[1]) <= 20:
                letters = sorted(set(lettering[1]))
                for hall, kind in enumerate(lettering[0]):
                    for size in range(5 if len(letters) <= 4 else 3):
                        due = sum(
                            lettered.slow_walk(house, lettering, hall, row) == hall
                            for row in product(letters, repeat=size)
                        )
                        if not is_same(count_back(house, lettering, kind, size), due):
                            self.fail(f"{house} {lettering} {kind} {size}: not {due}")

    def test_no_letters_come_back_once(self):
        for house, lettering in lettered.EVEN:
            self.assertEqual(count_back(house, lettering, lettering[0][0], 0), 1)
            self.assertEqual(count_back(house, lettering, lettering[0][-1], 1), 0)

    def test_single_hall(self):
        self.assertEqual([count_back(samples.SINGLE, ((0,), ()), 0, size) for size in [0, 1, 2, 60]], [1, 0, 0, 0])

    def test_sixty_letters(self):
        ring = samples.RING, ((0, 0, 0), (7, 7, 7))
        self.assertEqual([count_back(*ring, 0, size) for size in [57, 58, 59, 60]], [1, 0, 0, 1])
        self.assertEqual(count_back(samples.LINE, ((0, 1, 2), (0, 0, 1, 0)), 1, 60), 2 ** 30)
        self.assertEqual(count_back(samples.LINE, ((0, 1, 2), (0, 0, 1, 0)), 0, 60), 2 ** 29)
        # In the whole house of ten halls, of the rows of n letters 9 ** (n - 1) less those of n - 1 come back.
        whole, lettering = samples.whole(10), lettered.stepped(samples.whole(10))
        due = 1
        for size in range(61):
            self.assertEqual(count_back(whole, lettering, 0, size), due)
            due = 9 ** size - due

    def test_kinds_are_not_alike(self):
        star = samples.star(10)
        lettering = lettered.still(star)
        self.assertEqual([count_back(star, lettering, kind, 4) for kind in [0, 1, 9]], [81, 9, 9])
        self.assertEqual([count_back(star, lettering, kind, 5) for kind in [0, 1, 9]], [0, 0, 0])


class ShortestBackTests(unittest.TestCase):
    def test_rows_by_trial(self):
        for house, lettering in lettered.EVEN:
            letters = sorted(set(lettering[1]))
            for hall, kind in enumerate(lettering[0]):
                found = shortest_back(house, lettering, kind)
                if house == samples.SINGLE:
                    self.assertIsNone(found)
                    continue
                due = None
                for row in rows_of(letters, 10 if len(letters) == 1 else 5 if len(letters) <= 3 else 2)[1:]:
                    if due is None and lettered.slow_walk(house, lettering, hall, row) == hall:
                        due = row
                self.assertTrue(is_same(found, due), f"{house} {lettering} {kind}: {found}, not {due}")

    def test_rings(self):
        for halls in range(2, 11):
            self.assertEqual(shortest_back(samples.one_way_ring(halls), ((0,) * halls, (4,) * halls), 0), (4,) * halls)
        self.assertEqual(shortest_back(RING, AROUND, 0), (1, 9))

    def test_the_least_of_the_shortest(self):
        # From hall 0 the letter 0 leads into the longer ring, 1 into the shorter one.
        lettering = ((0, 1, 2, 3, 4, 5), (1, 0, 5, 5, 3, 3, 3))
        self.assertEqual([shortest_back(samples.EIGHT, lettering, kind) for kind in [0, 1, 3]],
                         [(1, 5, 5), (5, 5, 1), (3, 3, 3, 0)])
        self.assertEqual(shortest_back(samples.EIGHT, ((5, 4, 3, 2, 1, 0), (0, 1, 5, 5, 3, 3, 3)), 5), (0, 5, 5))
        # Letters of the least door need not be the least.
        self.assertEqual(shortest_back(samples.star(4), ((0, 1, 2, 3), (5, 4, 3, 9, 8, 7)), 0), (3, 7))
        self.assertEqual(shortest_back(samples.star(4), ((0, 1, 2, 3), (5, 4, 3, 9, 8, 7)), 2), (8, 4))

    def test_what_comes_back(self):
        for house, lettering in lettered.EVEN[1:]:
            for kind in lettering[0]:
                row = shortest_back(house, lettering, kind)
                self.assertIs(comes_back(house, lettering, kind, row), True)
                self.assertGreater(count_back(house, lettering, kind, len(row)), 0)
                self.assertEqual([count_back(house, lettering, kind, size) for size in range(1, len(row))],
                                 [0] * (len(row) - 1))


class EvennessTests(HouseCase):
    def test_letterings_that_are_not_even(self):
        for at, (house, lettering, _) in enumerate(lettered.UNEVEN):
            for kind in lettering[0]:
                self.check_error(lambda: comes_back(house, lettering, kind, ()), at, NotEven)
                self.check_error(lambda: comes_back(house, lettering, kind, (0,) * 60), at, NotEven)
                self.check_error(lambda: count_back(house, lettering, kind, 0), at, NotEven)
                self.check_error(lambda: count_back(house, lettering, kind, 60), at, NotEven)
                self.check_error(lambda: shortest_back(house, lettering, kind), at, NotEven)

    def test_walk_and_could_be_need_no_even_lettering(self):
        for house, lettering, (one, other, row) in lettered.UNEVEN:
            for hall in [one, other]:
                self.assertEqual(walk(house, lettering, hall, row), lettered.slow_walk(house, lettering, hall, row))
            self.assertEqual(could_be(house, lettering, ()), tuple(range(house[0])))

    def test_more_than_720_symmetries_are_no_hindrance(self):
        whole, lettering = samples.whole(7), lettered.stepped(samples.whole(7))
        self.assertIs(comes_back(whole, lettering, 0, (3, 4)), True)
        self.assertEqual(count_back(whole, lettering, 0, 2), 6)
        self.assertEqual(shortest_back(whole, lettering, 0), (1, 6))


class WrongArgumentTests(HouseCase):
    def check_all(self, at, error, house, lettering, **fields):
        """Check that all functions raise an error for a house and a lettering, whatever else they are passed."""
        for last in [(), (0,), None, [90], (90,)]:
            self.check_error(lambda: walk(house, lettering, 0, last), at, error, **fields)
            self.check_error(lambda: walk(house, lettering, True, last), at, error, **fields)
            self.check_error(lambda: could_be(house, lettering, last), at, error, **fields)
            self.check_error(lambda: comes_back(house, lettering, 0, last), at, error, **fields)
            self.check_error(lambda: comes_back(house, lettering, -1, last), at, error, **fields)
        for kind in [0, -1, None]:
            self.check_error(lambda: count_back(house, lettering, kind, 0), at, error, **fields)
            self.check_error(lambda: count_back(house, lettering, kind, None), at, error, **fields)
            self.check_error(lambda: shortest_back(house, lettering, kind), at, error, **fields)

    def test_wrong_houses(self):
        for at, (value, part) in enumerate(samples.WRONG_HOUSES):
            for lettering in [((0, 0), (0, 0)), None]:
                self.check_all(at, BadHouse, value, lettering, part=part)

    def test_wrong_letterings(self):
        for house in [samples.SINGLE, samples.SWAP, samples.LINE]:
            for at, (value, part) in enumerate(lettered.wrong_letterings(house)):
                self.check_all((house[0], at), BadLettering, house, value, part=part)

    def test_wrong_halls(self):
        for house in [samples.SINGLE, samples.SWAP, samples.PETERSEN]:
            lettering = lettered.still(house)
            for at, hall in enumerate(samples.wrong_halls(house)):
                for row in [(), (0,), None, (90,)]:
                    self.check_error(lambda: walk(house, lettering, hall, row), (house[0], at), BadHall)

    def test_wrong_rows(self):
        lettering = ((0, 0), (0, 0))
        for at, (value, index) in enumerate(lettered.WRONG_ROWS):
            self.check_error(lambda: walk(samples.SWAP, lettering, 1, value), at, BadRow, index=index)
            self.check_error(lambda: could_be(samples.SWAP, lettering, value), at, BadRow, index=index)
            self.check_error(lambda: comes_back(samples.SWAP, lettering, 0, value), at, BadRow, index=index)

    def test_wrong_items_of_rows_that_cannot_be_walked(self):
        for row, index in [((5, 90), 1), ((5, 5, True), 2), ((5,) * 61, None), ((0, 5, None), 2)]:
            self.check_error(lambda: walk(samples.SWAP, ((0, 0), (0, 0)), 1, row), row, BadRow, index=index)
            self.check_error(lambda: could_be(samples.SWAP, ((0, 0), (0, 0)), row), row, BadRow, index=index)
            self.check_error(lambda: comes_back(samples.SWAP, ((0, 0), (0, 0)), 0, row), row, BadRow, index=index)

    def test_wrong_kinds(self):
        for house, lettering, wrong in [
            (samples.SWAP, ((0, 0), (0, 0)), [1, 2, -1, 10 ** 40]),
            (samples.SWAP, ((1, 1), (0, 0)), [0, 2, -1, -2]),
            (samples.LINE, ((0, 1, 2), (0, 0, 1, 0)), [3, -1, -3, 10]),
            (samples.SINGLE, ((0,), ()), [1, -1, 10]),
            # Of a lettering that is not even, too: the kind comes ahead.
            (samples.SWAP, ((0, 0), (0, 1)), [1, 2]),
        ]:
            for at, kind in enumerate(wrong + lettered.NO_NUMBERS):
                for row in [(), (0,), None, (90,)]:
                    self.check_error(lambda: comes_back(house, lettering, kind, row), (lettering, at), BadKind)
                for size in [0, 60, -1, None]:
                    self.check_error(lambda: count_back(house, lettering, kind, size), (lettering, at), BadKind)
                self.check_error(lambda: shortest_back(house, lettering, kind), (lettering, at), BadKind)

    def test_wrong_sizes(self):
        wrong = [-1, -60, 61, 62, 10 ** 40] + lettered.NO_NUMBERS
        for lettering in [((0, 0), (0, 0)), ((0, 0), (0, 1))]:
            for at, size in enumerate(wrong):
                self.check_error(lambda: count_back(samples.SWAP, lettering, 0, size), (lettering, at), BadNumber)

    def test_order_of_errors(self):
        good = ((0, 0), (0, 0))
        no_house = [((0, ()), BadHouse, {"part": "halls"}), (None, BadHouse, {"part": "whole"})]
        no_lettering = [(((0, 2), (0, 0)), BadLettering, {"part": "kinds"}), ([], BadLettering, {"part": "whole"})]
        no_row = [([0], BadRow, {"index": None}), ((0, 90), BadRow, {"index": 1})]
        no_kind = [(1, BadKind, {}), (False, BadKind, {})]
        no_number = [(61, BadNumber, {}), (False, BadNumber, {})]
        first = [no_house, no_lettering]
        self.check_order(walk, [samples.SWAP, good, 1, (0,)], first + [[(2, BadHall, {}), (True, BadHall, {})], no_row])
        self.check_order(could_be, [samples.SWAP, good, (0,)], first + [no_row])
        for lettering in [good, ((0, 0), (0, 1))]:
            # NotEven comes behind those of all arguments.
            self.check_order(comes_back, [samples.SWAP, lettering, 0, (0,)], first + [no_kind, no_row])
            self.check_order(count_back, [samples.SWAP, lettering, 0, 2], first + [no_kind, no_number])
            self.check_order(shortest_back, [samples.SWAP, lettering, 0], first + [no_kind])

    def test_arguments_are_not_modified(self):
        lettering = ((0, 0), (0, 0))
        value = [[0, 1], {0: [0]}, (0, [1])]
        kept = copy.deepcopy(value)
        calls = [
            lambda: walk(samples.SWAP, lettering, 0, value), lambda: could_be(samples.SWAP, lettering, value),
            lambda: comes_back(samples.SWAP, lettering, 0, value),
            lambda: comes_back(samples.SWAP, lettering, value, ()),
            lambda: count_back(samples.SWAP, lettering, 0, value),
            lambda: count_back(samples.SWAP, lettering, value, 0),
            lambda: shortest_back(samples.SWAP, lettering, value), lambda: walk(samples.SWAP, lettering, value, ()),
            lambda: walk(value, value, value, value), lambda: walk(samples.SWAP, value, value, value),
        ]
        for called in calls:
            with self.assertRaises((BadHouse, BadLettering, BadHall, BadRow, BadKind, BadNumber)):
                called()
        self.assertEqual(value, kept)
        for house, lettering in lettered.EVEN:
            kept = copy.deepcopy((house, lettering))
            kind = lettering[0][0]
            walk(house, lettering, 0, (0, 1)), could_be(house, lettering, (0, 1))
            comes_back(house, lettering, kind, (0, 1)), count_back(house, lettering, kind, 5)
            shortest_back(house, lettering, kind)
            self.assertEqual((house, lettering), kept)


if __name__ == "__main__":
    unittest.main()
