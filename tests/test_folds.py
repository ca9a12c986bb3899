"""Point 10: folds, what is unfolded, and what is folded."""

import copy
import unittest

from letterhalls import folds as folds_file
from letterhalls.errors import BadFold, BadHouse, BadLettering, NotEven
from letterhalls.evenness import group_of, lettering_of
from letterhalls.folds import folded, unfolded
from letterhalls.groups import free_groups
from letterhalls.houses import is_house
from letterhalls.letterings import is_even, plain
from letterhalls.likes import are_alike, shows_like
from tests import folding, lettered, samples
from tests.cases import HouseCase


def slow_folded(house, lettering):
    """The fold of an even lettering, by a look at each symmetry and each door."""
    group = lettered.slow_group(house, lettering)
    kinds, letters = lettered.slow_plain(house, lettering)
    leasts = [kinds.index(kind) for kind in range(len(set(kinds)))]
    table = []
    for least in leasts:
        row = {}
        for (one, other), letter in zip(house[1], letters):
            if one == least:
                kind = kinds[other]
                turn, = [turn for turn in group if turn[leasts[kind]] == other]
                row[letter] = (kind, turn)
        table.append(tuple(row[letter] for letter in range(len(row))))
    return group, tuple(table)


def is_tuples(value):
    """Whether a value is made of tuples and honest integers alone."""
    return type(value) is int or type(value) is tuple and all(is_tuples(item) for item in value)


class FoldCase(HouseCase):
    def check_unfolded(self, fold):
        found = unfolded(fold)
        if found != folding.slow_unfolded(fold) or not is_tuples(found):
            self.fail(f"{fold}: {found}")
        house, lettering = found
        if not is_house(house) or not is_even(house, lettering):
            self.fail(f"{fold}: {found} is not even")
        # It has as many halls of each kind as turns, and its group has as many symmetries.
        if len(group_of(house, lettering)) != len(fold[0]):
            self.fail(f"{fold}: {group_of(house, lettering)}")

    def check_folded(self, house, lettering):
        group, table = fold = folded(house, lettering)
        if group != group_of(house, lettering) or not is_tuples(fold):
            self.fail(f"{house} {lettering}: {fold}")
        # Led back, the pair of a kind and a turn is where the turn leads the least hall of the kind.
        other, other_lettering = unfolded(fold)
        kinds, letters = plain(house, lettering)
        led = tuple(turn[kinds.index(kind)] for kind in range(len(table)) for turn in group)
        if not shows_like(other, house, led) or not are_alike(other, house):
            self.fail(f"{house} {lettering}: {fold}, {led}")
        if tuple(kinds[hall] for hall in led) != other_lettering[0]:
            self.fail(f"{house} {lettering}: kinds of {fold}")
        known = dict(zip(house[1], letters))
        if tuple(known[led[one], led[end]] for one, end in other[1]) != other_lettering[1]:
            self.fail(f"{house} {lettering}: letters of {fold}")


class ExampleTests(FoldCase):
    def test_examples_of_the_interface(self):
        swap = (2, ((0, 1), (1, 0)))
        self.assertEqual(
            [folded(swap, ((0, 0), (0, 0))), unfolded((((0, 1), (1, 0)), (((0, (1, 0)),),)))],
            [(((0, 1), (1, 0)), (((0, (1, 0)),),)), ((2, ((0, 1), (1, 0))), ((0, 0), (0, 0)))],
        )
        self.check_error(lambda: unfolded((((0, 1), (1, 0)), (((0, (0, 1)),),))), 0, BadFold, part="table")

    def test_functions_are_defined_in_their_file(self):
        for name in ["folded", "unfolded"]:
            self.assertEqual(getattr(folds_file, name).__module__, "letterhalls.folds")


class UnfoldedTests(FoldCase):
    def test_folds(self):
        for fold in folding.FOLDS:
            self.assertIsNone(folding.slow_part(fold))
            self.check_unfolded(fold)

    def test_single_hall(self):
        self.assertEqual(unfolded((((0,),), ((),))), (samples.SINGLE, ((0,), ())))
        self.assertEqual(unfolded(((tuple(range(10)),), ((),))), (samples.SINGLE, ((0,), ())))

    def test_one_turn_and_ten_kinds(self):
        for turn in [(0,), (0, 1), tuple(range(10))]:
            self.assertEqual(unfolded(folding.ring_of_ten(turn)),
                             (samples.one_way_ring(10), (tuple(range(10)), (0,) * 10)))

    def test_ten_turns_and_one_kind(self):
        house, lettering = unfolded((folding.TEN, (((0, folding.around(10)),),)))
        self.assertEqual((house, lettering), (samples.one_way_ring(10), ((0,) * 10, (0,) * 10)))
        house, lettering = unfolded((folding.TEN, (tuple((0, turn) for turn in folding.TEN[1:]),)))
        self.assertEqual(house, samples.whole(10))
        self.assertEqual(lettering, ((0,) * 10, tuple((other - one) % 10 - 1 for one, other in house[1])))

    def test_two_rings_at_once(self):
        # A turn of two and of five places at once: behind itself it makes ten turns of seven places.
        house, lettering = unfolded((folding.TWO_AND_FIVE, (((0, (1, 0, 3, 4, 5, 6, 2)),),)))
        self.assertTrue(are_alike(house, samples.one_way_ring(10)))
        self.assertEqual(lettering, ((0,) * 10, (0,) * 10))

    def test_which_turn_is_behind_the_other_matters(self):
        # Turns 0 to 5: 012, 021, 102, 120, 201, 210. Letter 0 leads from the turn s to 102 and s behind it, so to
        # what s tells at the places 1, 0, 2; letter 1 to what it tells at the places 1, 2, 0.
        self.assertEqual(
            unfolded((folding.ALL_OF_THREE, (((0, (1, 0, 2)), (0, (1, 2, 0))),))),
            ((6, ((0, 2), (0, 3), (1, 4), (1, 5), (2, 0), (2, 1), (3, 4), (3, 5), (4, 0), (4, 1), (5, 2), (5, 3))),
             ((0,) * 6, (0, 1, 0, 1, 0, 1, 1, 0, 1, 0, 1, 0))),
        )

    def test_kinds_come_one_behind_another(self):
        # From (0, s) to (1, s) by letter 0 and to (1, t) by letter 1, from (1, s) back to (0, s).
        self.assertEqual(
            unfolded((folding.SWAP, (((1, (0, 1)), (1, (1, 0))), ((0, (0, 1)),)))),
            ((4, ((0, 2), (0, 3), (1, 2), (1, 3), (2, 0), (3, 1))), ((0, 0, 1, 1), (0, 1, 1, 0, 0, 0))),
        )

    def test_turns_that_leave_places(self):
        self.assertEqual(unfolded((folding.ONE_SWAP, (((0, (0, 2, 1)),),))), (samples.SWAP, ((0, 0), (0, 0))))

    def test_letters_need_not_come_in_the_order_of_doors(self):
        fold = (folding.THREE, (((0, (2, 0, 1)), (0, (1, 2, 0))),))
        self.assertEqual(unfolded(fold), (samples.whole(3), ((0, 0, 0), (1, 0, 0, 1, 1, 0))))

    def test_known_houses(self):
        house, lettering = unfolded(folding.PETERSEN)
        self.assertEqual(lettering[0], (0,) * 5 + (1,) * 5)
        self.assertTrue(are_alike(house, samples.PETERSEN))
        cube = unfolded(folding.FOLDS[14])[0]
        self.assertTrue(are_alike(cube, samples.CUBE))

    def test_many_folds_by_trial(self):
        many = 0
        for at, fold in enumerate(folding.mixed_folds(4000)):
            if folding.slow_unfolded(fold) is None:
                self.check_error(lambda: unfolded(fold), at, BadFold, part="table")
            else:
                many += 1
                self.check_unfolded(fold)
        self.assertGreater(many, 400)

    def test_a_thousand_letters_cannot_stand(self):
        fold = (((0,),), (((1, (0,)),) * 100000, ((0, (0,)),)))
        self.check_error(lambda: unfolded(fold), 0, BadFold, part="table")


class FoldedTests(FoldCase):
    def test_even_letterings(self):
        for house, lettering in lettered.EVEN:
            self.check_folded(house, lettering)

    def test_even_letterings_by_trial(self):
        for house, lettering in lettered.EVEN:
            if house[0] < 9:
                self.assertEqual(folded(house, lettering), slow_folded(house, lettering))

    def test_all_free_groups_of_many_houses(self):
        houses = list(samples.small_houses(3)) + samples.HOUSES + samples.mixed_houses(4, 20)
        for house in houses:
            for group in free_groups(house):
                self.check_folded(house, lettering_of(house, group))
                if house[0] < 7:
                    lettering = lettering_of(house, group)
                    self.assertEqual(folded(house, lettering), slow_folded(house, lettering))

    def test_single_hall(self):
        self.assertEqual(folded(samples.SINGLE, ((0,), ())), (((0,),), ((),)))

    def test_as_many_kinds_as_halls(self):
        self.assertEqual(
            folded(samples.LINE, ((2, 0, 1), (7, 5, 3, 3))),
            (((0, 1, 2),), (((1, (0, 1, 2)),), ((0, (0, 1, 2)), (2, (0, 1, 2))), ((1, (0, 1, 2)),))),
        )
        for house in samples.HOUSES:
            rest = tuple(range(house[0]))
            group, table = folded(house, lettered.still(house))
            self.assertEqual(group, (rest,))
            self.assertEqual(table, tuple(
                tuple((other, rest) for one, other in house[1] if one == hall) for hall in range(house[0])
            ))

    def test_ten_turns(self):
        ring = samples.one_way_ring(10)
        group = tuple(folding.around(10, step) for step in range(10))
        self.assertEqual(folded(ring, ((9,) * 10, (89,) * 10)), (group, (((0, group[1]),),)))
        self.assertEqual(unfolded(folded(ring, ((9,) * 10, (89,) * 10))), (ring, ((0,) * 10, (0,) * 10)))

    def test_names_do_not_matter(self):
        four = lettered.FOUR
        one, other = ((0, 1, 0, 1), (0, 1, 0, 1, 1, 0, 1, 0)), ((3, 0, 3, 0), (89, 0, 7, 8, 0, 89, 8, 7))
        self.assertEqual(plain(four, one), plain(four, other))
        due = (((0, 1, 2, 3), (2, 3, 0, 1)), (
            ((1, (0, 1, 2, 3)), (1, (2, 3, 0, 1))), ((0, (0, 1, 2, 3)), (0, (2, 3, 0, 1))),
        ))
        self.assertEqual(folded(four, one), due)
        self.assertEqual(folded(four, other), due)

    def test_symmetries_one_behind_another(self):
        # A house of all turns of three numbers: its fold is made of the other six turns that it has as symmetries.
        house, lettering = unfolded((folding.ALL_OF_THREE, (((0, (1, 0, 2)), (0, (1, 2, 0))),)))
        self.assertEqual(folded(house, lettering), (
            ((0, 1, 2, 3, 4, 5), (1, 0, 4, 5, 2, 3), (2, 3, 0, 1, 5, 4),
             (3, 2, 5, 4, 0, 1), (4, 5, 1, 0, 3, 2), (5, 4, 3, 2, 1, 0)),
            (((0, (2, 3, 0, 1, 5, 4)), (0, (3, 2, 5, 4, 0, 1))),),
        ))

    def test_more_than_720_symmetries_are_no_hindrance(self):
        for house in [samples.whole(7), samples.whole(10), samples.star(10)]:
            self.check_folded(house, lettered.still(house))
        self.check_folded(samples.whole(10), lettered.stepped(samples.whole(10)))

    def test_letterings_that_are_not_even(self):
        for at, (house, lettering, _) in enumerate(lettered.UNEVEN):
            self.check_error(lambda: folded(house, lettering), at, NotEven)

    def test_what_is_unfolded_can_be_folded(self):
        for fold in folding.FOLDS:
            self.check_folded(*unfolded(fold))


class WrongArgumentTests(FoldCase):
    def check_part(self, value, part):
        """Check that a value is no fold, as slow plain ways say it too."""
        if folding.slow_part(value) != part:
            self.fail(f"the test is wrong: {part}")
        self.check_error(lambda: unfolded(value), part, BadFold, part=part)

    def test_what_is_no_pair(self):
        swap = folding.FOLDS[3]
        for value in [value for value in samples.ANY_VALUES if not (type(value) is tuple and len(value) == 2)] + [
            (swap[0],), swap + ((),), list(swap), {0: swap[0], 1: swap[1]}, (swap,), "01", samples.deep(3000),
        ]:
            self.check_part(value, "whole")

    def test_wrong_turns(self):
        for turns in folding.NO_TURNS:
            for table in [(((0, (1, 0)),),), ((),), (), None, [], samples.deep(3000)]:
                self.check_part((turns, table), "turns")

    def test_wrong_tables(self):
        for turns, table in folding.NO_TABLES:
            self.check_part((turns, table), "table")

    def test_folds_wrong_in_one_place(self):
        for fold in [folding.FOLDS[3], folding.FOLDS[5], folding.FOLDS[6], (((0,),), ((),)),
                     (folding.THREE, (((1, (0, 1, 2)),), ((0, (1, 2, 0)), (1, (2, 0, 1)))))]:
            for at, value in enumerate(folding.replaced(fold)):
                part = folding.slow_part(value)
                if part is None:
                    self.check_unfolded(value)
                else:
                    self.check_error(lambda: unfolded(value), at, BadFold, part=part)

    def test_wrong_houses_and_letterings(self):
        for at, (value, part) in enumerate(samples.WRONG_HOUSES):
            for lettering in [((0, 0), (0, 0)), None]:
                self.check_error(lambda: folded(value, lettering), at, BadHouse, part=part)
        for house in [samples.SINGLE, samples.SWAP, samples.LINE]:
            for at, (value, part) in enumerate(lettered.wrong_letterings(house)):
                self.check_error(lambda: folded(house, value), (house[0], at), BadLettering, part=part)

    def test_order_of_errors(self):
        self.check_order(folded, [samples.SWAP, ((0, 0), (0, 0))], [
            [((0, ()), BadHouse, {"part": "halls"}), (None, BadHouse, {"part": "whole"})],
            [(((0, 2), (0, 0)), BadLettering, {"part": "kinds"}), ([], BadLettering, {"part": "whole"}),
             (((0, 0), (0, 1)), NotEven, {})],
        ])

    def test_arguments_are_not_modified(self):
        value = [[0, 1], {0: [0]}, (0, [1])]
        kept = copy.deepcopy(value)
        for called in [
            lambda: unfolded(value), lambda: unfolded((value, value)), lambda: unfolded((((0,),), value)),
            lambda: unfolded((((0,),), ((value,),))), lambda: folded(value, value), lambda: folded(samples.SWAP, value),
        ]:
            with self.assertRaises((BadFold, BadHouse, BadLettering)):
                called()
        self.assertEqual(value, kept)
        for fold in folding.FOLDS:
            kept = copy.deepcopy(fold)
            house, lettering = unfolded(fold)
            self.assertEqual(fold, kept)
            kept = copy.deepcopy((house, lettering))
            folded(house, lettering)
            self.assertEqual((house, lettering), kept)


if __name__ == "__main__":
    unittest.main()
