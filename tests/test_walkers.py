"""Point 9: walkers, what they tell of the walk so far, and how they take steps back."""

import copy
import unittest

from letterhalls import walkers as walkers_file
from letterhalls.errors import BadHall, BadHouse, BadLettering, BadStep, NoDoor
from letterhalls.walkers import Walker
from letterhalls.walks import could_be
from tests import lettered, samples
from tests.cases import HouseCase

SWAP_LETTERS = ((1, 0), (89, 0))
# Letterings that are even and such that are not, since a walker may walk through any.
ALL = lettered.EVEN + [(house, lettering) for house, lettering, _ in lettered.UNEVEN]
# Values that are the letter of no door of a hall whose only letters are 0 and 1.
NO_LETTERS = [
    2, -1, 89, 90, 10 ** 40, -(10 ** 40), True, False, None, "", "0", "1", (), (0,), (1,), (0, 1), [], [0], [1], [[]],
    {}, {0: 0}, {1: 1}, ([0],), samples.deep(3000),
]


def told(walker):
    """All that a walker tells."""
    return walker.hall, walker.row, walker.is_home, walker.seen, walker.beliefs


def due(house, lettering, start, row):
    """All that a walker tells behind a row, by a walk along it from each hall."""
    halls = [lettered.slow_walk(house, lettering, start, row[:size]) for size in range(len(row) + 1)]
    ends = {lettered.slow_walk(house, lettering, hall, row) for hall in range(house[0])} - {None}
    return halls[-1], tuple(row), halls[-1] == start, tuple(sorted(set(halls))), tuple(sorted(ends))


def letters_at(house, lettering, hall):
    return sorted(letter for (one, _), letter in zip(house[1], lettering[1]) if one == hall)


class WalkerCase(HouseCase):
    def check_told(self, walker, house, lettering, start, row):
        """Check what a walker tells behind a row, and of which kinds the values are."""
        found = told(walker)
        if found != due(house, lettering, start, row):
            self.fail(f"{house} {lettering} from {start}, {row}: {found}")
        if [type(value) for value in found] != [int, tuple, bool, tuple, tuple]:
            self.fail(f"kinds of values: {found}")


class ExampleTests(HouseCase):
    def test_examples_of_the_interface(self):
        line = (3, ((0, 1), (1, 0), (1, 2), (2, 1)))
        walker = Walker(line, ((0, 1, 2), (0, 0, 1, 0)), 0)
        self.assertEqual(
            [walker.step(0), walker.step(1), walker.hall, walker.row, walker.is_home, walker.seen, walker.beliefs,
             walker.undo(), walker.hall],
            [None, None, 2, (0, 1), False, (0, 1, 2), (2,), None, 1],
        )

    def test_the_class_itself_has_what_is_listed(self):
        self.assertEqual(walkers_file.Walker.__module__, "letterhalls.walkers")
        for name in ["step", "undo", "__init__"]:
            self.assertTrue(callable(vars(Walker)[name]), name)
        for name in ["hall", "row", "is_home", "seen", "beliefs"]:
            self.assertIsInstance(vars(Walker)[name], property, name)


class WalkTests(WalkerCase):
    def test_what_is_told_before_the_first_step(self):
        for house, lettering in ALL:
            for hall in range(house[0]):
                walker = Walker(house, lettering, hall)
                self.check_told(walker, house, lettering, hall, ())
                self.assertEqual(told(walker), (hall, (), True, (hall,), tuple(range(house[0]))))

    def test_all_short_walks(self):
        for house, lettering in ALL:
            if len(house[1]) <= 12:
                for start in range(house[0]):
                    self.walk_on(Walker(house, lettering, start), house, lettering, start, (), 4)

    def walk_on(self, walker, house, lettering, start, row, left):
        """Take all walks of so many more steps, and each step back."""
        self.check_told(walker, house, lettering, start, row)
        if left:
            for letter in letters_at(house, lettering, walker.hall):
                self.assertIsNone(walker.step(letter))
                self.walk_on(walker, house, lettering, start, row + (letter,), left - 1)
                self.assertIsNone(walker.undo())
                self.check_told(walker, house, lettering, start, row)

    def test_long_walks_taken_back_and_taken_again(self):
        for at, (house, lettering) in enumerate(ALL[1:]):
            start = at % house[0]
            walker = Walker(house, lettering, start)
            for turn in [0, 1]:
                row = self.walk_far(walker, house, lettering, start, at + turn, 14)
                for size in reversed(range(len(row))):
                    walker.undo()
                    self.check_told(walker, house, lettering, start, row[:size])
                self.check_error(walker.undo, at, BadStep)
                self.check_told(walker, house, lettering, start, ())

    def walk_far(self, walker, house, lettering, start, pick, steps):
        """Take a long walk, its letters picked by a fixed rule, and return its row."""
        row = ()
        for _ in range(steps):
            choice = letters_at(house, lettering, walker.hall)
            pick = (pick * 1103515245 + 12345) % 2 ** 31
            letter = choice[(pick >> 16) % len(choice)]
            walker.step(letter)
            row += (letter,)
            self.check_told(walker, house, lettering, start, row)
        return row

    def test_some_steps_taken_back_and_others_taken(self):
        house, lettering = samples.two_way_ring(10), lettered.stepped(samples.two_way_ring(10))
        walker = Walker(house, lettering, 3)
        for letter in [1, 1, 1]:
            walker.step(letter)
        self.assertEqual(told(walker), (6, (1, 1, 1), False, (3, 4, 5, 6), tuple(range(10))))
        walker.undo(), walker.undo()
        self.assertEqual(told(walker), (4, (1,), False, (3, 4), tuple(range(10))))
        walker.step(9)
        self.assertEqual(told(walker), (3, (1, 9), True, (3, 4), tuple(range(10))))
        walker.step(9)
        self.assertEqual(told(walker), (2, (1, 9, 9), False, (2, 3, 4), tuple(range(10))))
        walker.undo(), walker.undo(), walker.undo()
        self.assertEqual(told(walker), (3, (), True, (3,), tuple(range(10))))
        walker.step(9)
        self.assertEqual(told(walker), (2, (9,), False, (2, 3), tuple(range(10))))

    def test_a_hall_that_is_come_to_twice_stays_seen(self):
        walker = Walker(samples.SWAP, ((0, 0), (0, 0)), 1)
        for letters in [1, 2, 3]:
            walker.step(0)
        walker.undo(), walker.undo()
        self.assertEqual(told(walker), (0, (0,), False, (0, 1), (0, 1)))
        walker.undo()
        self.assertEqual(told(walker), (1, (), True, (1,), (0, 1)))

    def test_beliefs_are_of_all_halls_of_whatever_kind(self):
        walker = Walker(samples.LINE, ((0, 1, 2), (0, 0, 1, 0)), 1)
        walker.step(0)
        self.assertEqual(walker.beliefs, (0, 1))
        walker.step(0)
        self.assertEqual(walker.beliefs, (0, 1))
        walker.step(1)
        self.assertEqual(walker.beliefs, (2,))
        walker.undo()
        self.assertEqual(walker.beliefs, (0, 1))

    def test_beliefs_are_where_the_row_could_be(self):
        for house, lettering in ALL[1:]:
            walker = Walker(house, lettering, 0)
            for _ in range(60):
                walker.step(letters_at(house, lettering, walker.hall)[-1])
                self.assertEqual(walker.beliefs, could_be(house, lettering, walker.row))

    def test_walks_of_more_than_sixty_steps(self):
        walker = Walker(samples.RING, ((0, 0, 0), (7, 7, 7)), 2)
        for step in range(1, 1001):
            walker.step(7)
            self.assertEqual((walker.hall, walker.is_home), ((2 + step) % 3, step % 3 == 0))
        self.assertEqual(told(walker), (0, (7,) * 1000, False, (0, 1, 2), (0, 1, 2)))
        for _ in range(1000):
            walker.undo()
        self.assertEqual(told(walker), (2, (), True, (2,), (0, 1, 2)))

    def test_letters_0_and_89(self):
        walker = Walker(samples.SWAP, SWAP_LETTERS, 0)
        self.check_error(lambda: walker.step(0), 0, NoDoor)
        walker.step(89)
        self.check_error(lambda: walker.step(89), 1, NoDoor)
        walker.step(0)
        self.assertEqual(told(walker), (0, (89, 0), True, (0, 1), (0,)))

    def test_ten_halls(self):
        house = samples.whole(10)
        walker = Walker(house, lettered.stepped(house), 9)
        for letter in range(1, 10):
            walker.step(letter)
        self.assertEqual(told(walker), (4, tuple(range(1, 10)), False, (0, 2, 4, 5, 7, 9), tuple(range(10))))

    def test_walkers_do_not_hinder_one_another(self):
        lettering = ((0, 0, 0), (7, 7, 7))
        one, other = Walker(samples.RING, lettering, 0), Walker(samples.RING, lettering, 0)
        one.step(7)
        self.assertEqual([one.hall, other.hall, one.row, other.row], [1, 0, (7,), ()])
        other.step(7), other.step(7)
        one.undo()
        self.assertEqual([one.hall, other.hall, one.seen, other.seen], [0, 2, (0,), (0, 1, 2)])


class NoStepTests(WalkerCase):
    def test_no_door_for_any_value(self):
        line, lettering = samples.LINE, ((0, 1, 2), (0, 0, 1, 0))
        walker = Walker(line, lettering, 1)
        for row in [(), (0, 0), (1, 0)]:
            for letter in row:
                walker.step(letter)
            before = told(walker)
            for at, value in enumerate(NO_LETTERS):
                self.check_error(lambda: walker.step(value), at, NoDoor)
                self.assertEqual(told(walker), before)
        walker.step(0)
        self.check_error(lambda: walker.step(1), "a letter of another hall", NoDoor)

    def test_no_letter_is_taken_for_a_boolean(self):
        walker = Walker(samples.whole(3), lettered.EVEN_RING, 0)
        self.check_error(lambda: walker.step(True), 0, NoDoor)
        self.check_error(lambda: walker.step(False), 1, NoDoor)
        walker.step(1)
        self.assertEqual(walker.row, (1,))

    def test_the_single_hall_has_no_door(self):
        walker = Walker(samples.SINGLE, ((0,), ()), 0)
        for at, value in enumerate(NO_LETTERS + [0, 1]):
            self.check_error(lambda: walker.step(value), at, NoDoor)
        self.check_error(walker.undo, 0, BadStep)
        self.assertEqual(told(walker), (0, (), True, (0,), (0,)))

    def test_no_step_to_take_back(self):
        walker = Walker(samples.SWAP, SWAP_LETTERS, 1)
        for _ in range(2):
            self.check_error(walker.undo, 0, BadStep)
            self.assertEqual(told(walker), (1, (), True, (1,), (0, 1)))
            # A step that could not be taken is none that can be taken back.
            self.check_error(lambda: walker.step(5), 0, NoDoor)
            self.check_error(walker.undo, 1, BadStep)
            walker.step(0)
            walker.undo()
        self.check_error(walker.undo, 2, BadStep)


class WrongArgumentTests(HouseCase):
    def test_wrong_houses(self):
        for at, (value, part) in enumerate(samples.WRONG_HOUSES):
            for lettering, hall in [(SWAP_LETTERS, 0), (None, None)]:
                self.check_error(lambda: Walker(value, lettering, hall), at, BadHouse, part=part)

    def test_wrong_letterings(self):
        for house in [samples.SINGLE, samples.SWAP, samples.LINE]:
            for at, (value, part) in enumerate(lettered.wrong_letterings(house)):
                for hall in [0, -1, None]:
                    self.check_error(lambda: Walker(house, value, hall), (house[0], at), BadLettering, part=part)

    def test_wrong_halls(self):
        for house in [samples.SINGLE, samples.SWAP, samples.PETERSEN]:
            for at, hall in enumerate(samples.wrong_halls(house)):
                self.check_error(lambda: Walker(house, lettered.still(house), hall), (house[0], at), BadHall)

    def test_order_of_errors(self):
        self.check_order(Walker, [samples.SWAP, SWAP_LETTERS, 1], [
            [((0, ()), BadHouse, {"part": "halls"}), (None, BadHouse, {"part": "whole"})],
            [(((0, 2), (0, 0)), BadLettering, {"part": "kinds"}), ([], BadLettering, {"part": "whole"})],
            [(2, BadHall, {}), (True, BadHall, {}), ([], BadHall, {})],
        ])

    def test_arguments_are_not_modified(self):
        value = [[0, 1], {0: [0]}, (0, [1])]
        kept = copy.deepcopy(value)
        walker = Walker(samples.SWAP, SWAP_LETTERS, 0)
        for called in [
            lambda: Walker(value, value, value), lambda: Walker(samples.SWAP, value, value),
            lambda: Walker(samples.SWAP, SWAP_LETTERS, value), lambda: walker.step(value),
        ]:
            with self.assertRaises((BadHouse, BadLettering, BadHall, NoDoor)):
                called()
        self.assertEqual(value, kept)
        for house, lettering in lettered.EVEN[1:]:
            kept = copy.deepcopy((house, lettering))
            walker = Walker(house, lettering, 0)
            walker.step(letters_at(house, lettering, 0)[0])
            walker.undo()
            self.assertEqual((house, lettering), kept)

    def test_what_is_told_is_not_changed_by_later_steps(self):
        walker = Walker(samples.LINE, ((0, 1, 2), (0, 0, 1, 0)), 0)
        walker.step(0)
        row, seen, beliefs = walker.row, walker.seen, walker.beliefs
        walker.step(1)
        self.assertEqual((row, seen, beliefs), ((0,), (0, 1), (0, 1)))


if __name__ == "__main__":
    unittest.main()
