"""Points 6 and 7: even letterings, and the free groups that they are made of."""

import copy
import unittest
from itertools import product

from letterhalls import evenness as evenness_file
from letterhalls.errors import BadGroup, BadHouse, BadLettering, BadNumber, NoLettering, NotEven, TooMany
from letterhalls.evenness import (
    are_one, count_letterings, even_lettering, group_of, kinds_there, least_kinds, lettering_of, letterings,
    shows_even_lettering,
)
from letterhalls.groups import free_groups
from letterhalls.letterings import is_even, plain
from letterhalls.symmetries import symmetries
from tests import lettered, samples
from tests.cases import HouseCase
from tests.test_groups import KNOWN
from tests.test_symmetries import ABOVE_720, JUST_720

NUMBERS = range(1, 11)
WRONG_NUMBERS = [0, -1, 11, 12, 10 ** 40, -(10 ** 40)] + lettered.NO_NUMBERS
STILL_SWAP = ((0, 1), (0, 0))


class ExampleTests(HouseCase):
    def test_examples_of_the_interface(self):
        four = (4, ((0, 1), (0, 3), (1, 0), (1, 2), (2, 1), (2, 3), (3, 0), (3, 2)))
        self.assertEqual([count_letterings(four, kinds) for kinds in [1, 2, 3, 4]], [2, 3, 0, 1])
        self.assertEqual(kinds_there(four), (1, 2, 4))
        self.assertEqual(least_kinds(four), 1)
        self.assertEqual(letterings(four, 1)[0], ((0, 0, 0, 0), (0, 1, 0, 1, 1, 0, 1, 0)))
        swap = (2, ((0, 1), (1, 0)))
        self.assertEqual(group_of(swap, ((0, 0), (5, 5))), ((0, 1), (1, 0)))
        self.assertEqual(lettering_of(swap, ((0, 1),)), ((0, 1), (0, 0)))
        line = (3, ((0, 1), (1, 0), (1, 2), (2, 1)))
        self.check_error(lambda: even_lettering(line, 1), 0, NoLettering)

    def test_functions_are_defined_in_their_file(self):
        for name in ["letterings", "kinds_there", "group_of", "count_letterings", "least_kinds", "even_lettering",
                     "lettering_of", "shows_even_lettering", "are_one"]:
            self.assertEqual(getattr(evenness_file, name).__module__, "letterhalls.evenness")


class LetteringsTests(HouseCase):
    def test_small_houses_by_trial(self):
        for house in samples.small_houses(3):
            self.check_by_trial(house)

    def test_other_houses_by_trial(self):
        for house in [lettered.FOUR, samples.one_way_ring(4), samples.row_of(4), samples.star(4),
                      samples.one_way_ring(5), samples.two_way_ring(5), samples.EIGHT, samples.parted(2, 3)] + samples.mixed_houses(4, 8):
            self.check_by_trial(house)

    def test_whole_house_of_four_halls_by_trial(self):
        # Of one kind alone, since there are too many letterings to try each with all kinds.
        house = samples.whole(4)
        self.assertEqual(count_letterings(house, 1), 4)
        for lettering in letterings(house, 1):
            self.assertIsNone(lettered.slow_misled(house, lettering, 4))

    def check_by_trial(self, house):
        slow = lettered.slow_letterings(house)
        for kinds in NUMBERS:
            due = tuple(lettering for lettering in slow if len(set(lettering[0])) == kinds)
            if letterings(house, kinds) != due or count_letterings(house, kinds) != len(due):
                self.fail(f"letterings of {house} with {kinds} kinds: not {due}")
        there = tuple(sorted({len(set(lettering[0])) for lettering in slow}))
        if kinds_there(house) != there or least_kinds(house) != there[0]:
            self.fail(f"kinds of {house}: not {there}")

    def test_as_many_as_free_groups(self):
        for house, known in KNOWN:
            with self.subTest(house):
                halls = house[0]
                for kinds in NUMBERS:
                    due = known.get(halls // kinds, 0) if halls % kinds == 0 else 0
                    self.assertEqual(count_letterings(house, kinds), due)
                    self.assertIs(type(count_letterings(house, kinds)), int)
                    self.assertEqual(len(letterings(house, kinds)), due)
                self.assertEqual(kinds_there(house), tuple(sorted(halls // size for size in known)))
                self.assertIs(type(kinds_there(house)), tuple)
                self.assertEqual(least_kinds(house), halls // max(known))
                self.assertIs(type(least_kinds(house)), int)

    def test_each_is_plain_and_even(self):
        for house, _ in KNOWN:
            for kinds in kinds_there(house):
                found = letterings(house, kinds)
                self.assertIs(type(found), tuple)
                self.assertEqual(list(found), sorted(set(found)))
                for lettering in found:
                    if not is_even(house, lettering) or lettered.slow_plain(house, lettering) != lettering:
                        self.fail(f"{lettering} of {house}")
                    self.assertEqual(len(set(lettering[0])), kinds)
                    self.assertEqual([type(lettering), type(lettering[0]), type(lettering[1])], [tuple] * 3)

    def test_of_as_many_kinds_as_halls_there_is_just_one(self):
        for house in samples.HOUSES:
            self.assertEqual(letterings(house, house[0]), (lettered.still(house),))
            self.assertEqual(kinds_there(house)[-1], house[0])

    def test_more_kinds_than_halls(self):
        for house in [samples.SINGLE, samples.SWAP, samples.LINE, samples.CUBE]:
            for kinds in range(house[0] + 1, 11):
                self.assertEqual(letterings(house, kinds), ())
                self.assertEqual(count_letterings(house, kinds), 0)
                self.check_error(lambda: even_lettering(house, kinds), kinds, NoLettering)

    def test_single_hall(self):
        self.assertEqual(letterings(samples.SINGLE, 1), (((0,), ()),))
        self.assertEqual(kinds_there(samples.SINGLE), (1,))
        self.assertEqual(least_kinds(samples.SINGLE), 1)
        self.assertEqual(even_lettering(samples.SINGLE, 1), ((0,), ()))

    def test_ten_halls(self):
        ring = samples.two_way_ring(10)
        self.assertEqual([count_letterings(ring, kinds) for kinds in NUMBERS], [2, 1, 0, 0, 6, 0, 0, 0, 0, 1])
        self.assertEqual(kinds_there(samples.PETERSEN), (2, 10))
        self.assertEqual(least_kinds(samples.PETERSEN), 2)
        self.assertEqual(kinds_there(samples.row_of(10)), (5, 10))

    def test_letters_of_a_known_lettering(self):
        # The row of four halls turned about: kinds 0, 1, 1, 0, and the inner halls lead out by 0 and in by 1.
        self.assertEqual(letterings(samples.row_of(4), 2), (((0, 1, 1, 0), (0, 0, 1, 1, 0, 0)),))
        self.assertEqual(letterings(samples.RING, 1), (((0, 0, 0), (0, 0, 0)),))


class EvenLetteringTests(HouseCase):
    def test_what_it_returns_is_shown(self):
        for house, _ in KNOWN:
            there = kinds_there(house)
            for kinds in NUMBERS:
                with self.subTest(house, kinds=kinds):
                    if kinds in there:
                        found = even_lettering(house, kinds)
                        self.assertIs(shows_even_lettering(house, kinds, found), True)
                        self.assertTrue(lettered.honest(found[0], house[0], house[0] - 1))
                        self.assertTrue(lettered.honest(found[1], len(house[1]), 89))
                        self.assertEqual(len(set(found[0])), kinds)
                        self.assertIs(is_even(house, found), True)
                    else:
                        self.check_error(lambda: even_lettering(house, kinds), kinds, NoLettering)

    def test_even_letterings_are_shown_with_their_number_of_kinds_alone(self):
        for house, lettering in lettered.EVEN:
            for kinds in NUMBERS:
                with self.subTest(house, lettering=lettering, kinds=kinds):
                    self.assertIs(shows_even_lettering(house, kinds, lettering), kinds == len(set(lettering[0])))

    def test_other_letterings_are_not_shown(self):
        for house, lettering, _ in lettered.UNEVEN:
            for kinds in NUMBERS:
                with self.subTest(house, lettering=lettering, kinds=kinds):
                    self.assertIs(shows_even_lettering(house, kinds, lettering), False)

    def test_any_value(self):
        for house in [samples.SINGLE, samples.SWAP, samples.LINE, samples.whole(10)]:
            for at, (value, part) in enumerate(lettered.wrong_letterings(house)):
                for kinds in [1, 2, house[0], 10]:
                    with self.subTest(house[0], at=at, part=part, kinds=kinds):
                        self.assertIs(shows_even_lettering(house, kinds, value), False)
        for at, value in enumerate(samples.ANY_VALUES):
            for kinds in NUMBERS:
                with self.subTest(at=at, kinds=kinds):
                    # The doors of this house happen to be a lettering of it with two kinds.
                    due = value == samples.DOORS and kinds == 2
                    self.assertIs(shows_even_lettering(samples.SWAP, kinds, value), due)
                    self.assertIs(shows_even_lettering(samples.SINGLE, kinds, value), False)

    def test_a_letter_that_is_a_boolean_is_none(self):
        self.assertIs(shows_even_lettering(samples.SWAP, 1, ((0, 0), (1, 1))), True)
        self.assertIs(shows_even_lettering(samples.SWAP, 1, ((0, 0), (True, True))), False)
        self.assertIs(shows_even_lettering(samples.SWAP, 1, ((False, False), (1, 1))), False)

    def test_shown_whatever_the_number_of_symmetries(self):
        for halls in [7, 8, 9, 10]:
            whole = samples.whole(halls)
            self.assertIs(shows_even_lettering(whole, 1, lettered.stepped(whole)), True)
            self.assertIs(shows_even_lettering(whole, halls, lettered.still(whole)), True)
            self.assertIs(shows_even_lettering(whole, 2, lettered.stepped(whole)), False)


class GroupTests(HouseCase):
    def test_groups_by_trial(self):
        for house, lettering in lettered.EVEN:
            if house[0] <= 7:
                with self.subTest(house, lettering=lettering):
                    self.assertEqual(group_of(house, lettering), lettered.slow_group(house, lettering))

    def test_groups_of_larger_houses(self):
        for house, (kinds, letters) in lettered.EVEN:
            with self.subTest(house, kinds=kinds, letters=letters):
                found = group_of(house, (kinds, letters))
                self.assertEqual(list(found), sorted(set(found)))
                self.assertEqual([type(item) for item in (found,) + found], [tuple] * (1 + len(found)))
                self.assertTrue(lettered.is_group(house[0], found))
                known = dict(zip(house[1], letters))
                for turn in found:
                    self.assertEqual([known[turn[one], turn[other]] for one, other in house[1]], list(letters))
                for hall in range(house[0]):
                    lot = {turn[hall] for turn in found}
                    self.assertEqual(lot, {other for other in range(house[0]) if kinds[other] == kinds[hall]})

    def test_letterings_and_groups_take_each_other_back(self):
        for house, _ in KNOWN:
            groups = free_groups(house)
            made = [lettering_of(house, group) for group in groups]
            self.assertEqual([group_of(house, lettering) for lettering in made], list(groups))
            told = [lettering for kinds in NUMBERS for lettering in letterings(house, kinds)]
            self.assertEqual(sorted(made), sorted(told))

    def test_a_lettering_of_a_group_is_the_plain_one(self):
        for house, lettering in lettered.EVEN:
            with self.subTest(house, lettering=lettering):
                found = lettering_of(house, group_of(house, lettering))
                self.assertEqual(found, lettered.slow_plain(house, lettering))
                self.assertEqual([type(found), type(found[0]), type(found[1])], [tuple] * 3)

    def test_the_still_symmetry_alone(self):
        for house in samples.HOUSES + ABOVE_720:
            rest = (tuple(range(house[0])),)
            self.assertEqual(lettering_of(house, rest), lettered.still(house))
            self.assertEqual(group_of(house, lettered.still(house)), rest)
        self.assertEqual(lettering_of(samples.SINGLE, ((0,),)), ((0,), ()))
        self.assertEqual(group_of(samples.SINGLE, ((0,), ())), ((0,),))

    def test_more_than_720_symmetries_are_no_hindrance(self):
        for halls in [7, 8, 9, 10]:
            whole = samples.whole(halls)
            group = tuple(tuple((hall + turn) % halls for hall in range(halls)) for turn in range(halls))
            self.assertEqual(group_of(whole, lettered.stepped(whole)), group)
            self.assertEqual(lettering_of(whole, group), plain(whole, lettered.stepped(whole)))

    def test_letterings_that_are_not_even_have_no_group(self):
        for at, (house, lettering, _) in enumerate(lettered.UNEVEN):
            self.check_error(lambda: group_of(house, lettering), at, NotEven)


class WrongGroupTests(HouseCase):
    def check_bad_group(self, house, value, at, index):
        self.check_error(lambda: lettering_of(house, value), at, BadGroup, index=index)

    def test_no_tuples_and_too_long_ones(self):
        for at, value in enumerate(samples.ANY_VALUES + ["01", [(0, 1)], [[0, 1]], {(0, 1): True}]):
            if not isinstance(value, tuple):
                self.check_bad_group(samples.SWAP, value, at, None)
        for value in [((0, 1), (1, 0), (0, 1)), (None, None, None), ((0, 1),) * 3, (0,) * 1000]:
            self.check_bad_group(samples.SWAP, value, len(value), None)
        self.check_bad_group(samples.SINGLE, ((0,), (0,)), "still twice", None)
        self.check_bad_group(samples.SINGLE, ((0,), None), "too long", None)

    def test_items_that_are_no_symmetries(self):
        still, turn = (0, 1), (1, 0)
        # (False, True) equals the still one, but it is none.
        wrong = [value for value in samples.ANY_VALUES if not lettered.honest(value, 2, 1) or value[0] == value[1]]
        for at, value in enumerate(wrong + [[0, 1], (0, 0), (0, 1, 2), (0,), (1, 2), "01", samples.deep(3000)]):
            self.check_bad_group(samples.SWAP, (value,), at, 0)
            self.check_bad_group(samples.SWAP, (value, value), at, 0)
            self.check_bad_group(samples.SWAP, (still, value), at, 1)
            self.check_bad_group(samples.SWAP, (turn, value), at, 1)
            self.check_bad_group(samples.SWAP, (still, value, still), at, None)
            if value != (0, 1, 2):
                self.check_bad_group(samples.RING, ((0, 1, 2), (2, 0, 1), value), at, 2)
                self.check_bad_group(samples.RING, ((2, 0, 1), (2, 0, 1), value), at, 2)
                self.check_bad_group(samples.RING, ((0, 1, 2), value, value), at, 1)

    def test_a_shuffle_that_is_no_symmetry(self):
        self.check_bad_group(samples.RING, ((0, 1, 2), (1, 0, 2)), 0, 1)
        self.check_bad_group(samples.LINE, ((0, 1, 2), (2, 1, 0), (1, 2, 0)), 1, 2)
        self.check_bad_group(samples.RING, ((0, 2, 1), (1, 0, 2)), 2, 0)

    def test_symmetries_that_are_no_free_group(self):
        self.check_bad_group(samples.SWAP, (), "void", None)
        self.check_bad_group(samples.SINGLE, (), "void", None)
        self.check_bad_group(samples.SWAP, ((1, 0),), "without the still one", None)
        self.check_bad_group(samples.SWAP, ((1, 0), (0, 1)), "not ascending", None)
        self.check_bad_group(samples.SWAP, ((0, 1), (0, 1)), "twice", None)
        self.check_bad_group(samples.RING, ((0, 1, 2), (1, 2, 0)), "one behind itself", None)
        self.check_bad_group(samples.RING, ((0, 1, 2), (2, 0, 1)), "one behind itself", None)
        self.check_bad_group(samples.RING, ((0, 1, 2), (2, 0, 1), (1, 2, 0)), "not ascending", None)
        self.check_bad_group(samples.RING, ((0, 1, 2), (1, 2, 0), (1, 2, 0)), "twice", None)
        self.check_bad_group(samples.LINE, ((0, 1, 2), (2, 1, 0)), "leaves a hall", None)
        # A group of ten of which halves leave halls.
        ring = samples.two_way_ring(5)
        self.check_bad_group(ring, symmetries(ring)[:5], "not one behind the other", None)
        self.check_bad_group(ring, ((0, 1, 2, 3, 4), (0, 4, 3, 2, 1)), "leaves a hall", None)

    def test_all_choices_of_symmetries(self):
        for house in [samples.SWAP, samples.LINE, samples.RING, samples.whole(3), samples.row_of(4), lettered.FOUR]:
            known = free_groups(house)
            turns = symmetries(house)
            for size in range(4):
                for chosen in product(turns, repeat=size):
                    if chosen in known:
                        self.assertEqual(group_of(house, lettering_of(house, chosen)), chosen)
                    else:
                        self.check_bad_group(house, chosen, chosen, None)


class AreOneTests(HouseCase):
    def test_other_names_are_one(self):
        self.assertIs(are_one(samples.SWAP, ((0, 0), (5, 5)), ((1, 1), (0, 0))), True)
        self.assertIs(are_one(samples.SWAP, ((0, 1), (5, 5)), ((1, 0), (7, 8))), True)
        self.assertIs(are_one(samples.SWAP, ((0, 0), (5, 5)), ((0, 1), (5, 5))), False)
        self.assertIs(are_one(samples.SWAP, ((0, 0), (5, 5)), ((0, 0), (5, 6))), False)
        self.assertIs(are_one(samples.SWAP, ((0, 0), (3, 4)), ((1, 1), (4, 3))), True)
        self.assertIs(are_one(samples.SINGLE, ((0,), ()), ((0,), ())), True)

    def test_all_samples(self):
        for house, lettering in lettered.EVEN:
            for house_of_other, other in lettered.EVEN:
                if house == house_of_other:
                    due = lettered.slow_plain(house, lettering) == lettered.slow_plain(house, other)
                    self.assertIs(are_one(house, lettering, other), due)
        found = letterings(lettered.FOUR, 2)
        self.assertEqual([[are_one(lettered.FOUR, one, other) for one in found] for other in found],
                         [[True, False, False], [False, True, False], [False, False, True]])

    def test_wrong_letterings(self):
        good = lettered.still(samples.SWAP)
        for at, (value, part) in enumerate(lettered.wrong_letterings(samples.SWAP)):
            self.check_error(lambda: are_one(samples.SWAP, value, good), at, BadLettering, part=part)
            self.check_error(lambda: are_one(samples.SWAP, good, value), at, BadLettering, part=part)
            self.check_error(lambda: are_one(samples.SWAP, value, None), at, BadLettering, part=part)


class TooManyTests(HouseCase):
    def test_just_720_are_not_too_many(self):
        for house in JUST_720:
            with self.subTest(house):
                halls = house[0]
                self.assertEqual(letterings(house, halls), (lettered.still(house),))
                self.assertEqual(count_letterings(house, halls), 1)
                self.assertEqual(kinds_there(house)[-1], halls)
                self.assertIs(shows_even_lettering(house, halls, even_lettering(house, halls)), True)
        self.assertEqual(kinds_there(samples.whole(6)), (1, 2, 3, 6))
        counts = [count_letterings(samples.whole(6), kinds) for kinds in NUMBERS]
        self.assertEqual(counts, [80, 20, 15, 0, 0, 1, 0, 0, 0, 0])
        self.assertEqual(kinds_there(samples.TWO_BUNCHES), (10,))
        self.assertEqual(least_kinds(samples.TWO_BUNCHES), 10)

    def test_more_are(self):
        for at, house in enumerate(ABOVE_720):
            for called in [kinds_there, least_kinds]:
                self.check_error(lambda: called(house), at, TooMany, most=720)
            for called in [letterings, count_letterings, even_lettering]:
                for kinds in [1, 2, house[0], 10]:
                    self.check_error(lambda: called(house, kinds), (at, kinds), TooMany, most=720)


class WrongArgumentTests(HouseCase):
    def test_wrong_houses(self):
        for at, (value, part) in enumerate(samples.WRONG_HOUSES):
            for called in [kinds_there, least_kinds]:
                self.check_bad_house(lambda: called(value), at, part)
            for called in [letterings, count_letterings, even_lettering, group_of, lettering_of]:
                for other in [1, 0, None, STILL_SWAP, ((0, 1),), []]:
                    self.check_bad_house(lambda: called(value, other), at, part)
            for called in [shows_even_lettering, are_one]:
                for other in [1, 0, None, STILL_SWAP]:
                    self.check_bad_house(lambda: called(value, other, STILL_SWAP), at, part)
                    self.check_bad_house(lambda: called(value, other, None), at, part)

    def test_wrong_numbers(self):
        # Wrong numbers come ahead of TooMany and NoLettering.
        for house in [samples.SINGLE, samples.LINE, samples.PETERSEN, samples.whole(7)]:
            for at, value in enumerate(WRONG_NUMBERS):
                for called in [letterings, count_letterings, even_lettering]:
                    self.check_error(lambda: called(house, value), (house[0], at), BadNumber)
                for other in [lettered.still(house), None, [], {}]:
                    self.check_error(lambda: shows_even_lettering(house, value, other), (house[0], at), BadNumber)

    def test_wrong_letterings_for_a_group(self):
        for house in [samples.SINGLE, samples.SWAP, samples.LINE, samples.whole(10)]:
            for at, (value, part) in enumerate(lettered.wrong_letterings(house)):
                self.check_error(lambda: group_of(house, value), (house[0], at), BadLettering, part=part)

    def test_order_of_errors(self):
        no_house = [((0, ()), BadHouse, {"part": "halls"}), (None, BadHouse, {"part": "whole"})]
        no_lettering = [(((0, 2), (0, 0)), BadLettering, {"part": "kinds"}), ([], BadLettering, {"part": "whole"})]
        no_number = [(0, BadNumber, {}), (True, BadNumber, {})]
        no_group = [([], BadGroup, {"index": None}), (((0, 1), 5), BadGroup, {"index": 1})]
        not_even = [(((0, 0), (0, 1)), NotEven, {})]
        group = ((0, 1), (1, 0))
        self.check_order(letterings, [samples.SWAP, 1], [no_house, no_number])
        self.check_order(count_letterings, [samples.SWAP, 1], [no_house, no_number])
        self.check_order(even_lettering, [samples.SWAP, 1], [no_house, no_number])
        self.check_order(shows_even_lettering, [samples.SWAP, 1, STILL_SWAP], [no_house, no_number, []])
        self.check_order(are_one, [samples.SWAP, STILL_SWAP, STILL_SWAP], [no_house, no_lettering, no_lettering])
        self.check_order(group_of, [samples.SWAP, STILL_SWAP], [no_house, no_lettering + not_even])
        self.check_order(lettering_of, [samples.SWAP, group], [no_house, no_group])

    def test_arguments_are_not_modified(self):
        value = [[[1, 0], [0, 0]], {0: [1, 0]}, [0, 1]]
        kept = copy.deepcopy(value)
        for called in [letterings, count_letterings, even_lettering, group_of, lettering_of]:
            with self.assertRaises((BadNumber, BadLettering, BadGroup)):
                called(samples.SWAP, value)
            with self.assertRaises(BadHouse):
                called(value, value)
        self.assertIs(shows_even_lettering(samples.SWAP, 1, value), False)
        with self.assertRaises(BadLettering):
            are_one(samples.SWAP, value, value)
        self.assertEqual(value, kept)
        for house, lettering in lettered.EVEN:
            kept = copy.deepcopy((house, lettering))
            group = group_of(house, lettering)
            kept_group = copy.deepcopy(group)
            lettering_of(house, group), are_one(house, lettering, lettering), shows_even_lettering(house, 1, lettering)
            self.assertEqual((house, lettering), kept)
            self.assertEqual(group, kept_group)


if __name__ == "__main__":
    unittest.main()
