"""Points 5 and 6: letterings, what they are when plain, and rows that mislead."""

import copy
import unittest
from itertools import product

from letterhalls import letterings as letterings_file
from letterhalls.errors import BadHouse, BadLettering
from letterhalls.letterings import is_even, misled, plain
from tests import lettered, samples
from tests.cases import HouseCase


class ExampleTests(HouseCase):
    def test_examples_of_the_interface(self):
        line = (3, ((0, 1), (1, 0), (1, 2), (2, 1)))
        self.assertEqual(misled(line, ((0, 1, 0), (0, 0, 1, 0))), (0, 2, (0, 0)))
        self.assertIs(is_even(line, ((0, 1, 2), (0, 0, 1, 0))), True)
        self.assertEqual(plain(line, ((2, 0, 1), (7, 5, 3, 3))), ((0, 1, 2), (0, 0, 1, 0)))
        self.check_error(lambda: plain((2, ((0, 1), (1, 0))), ((0, 2), (0, 0))), 0, BadLettering, part="kinds")

    def test_functions_are_defined_in_their_file(self):
        for name in ["plain", "misled", "is_even"]:
            self.assertEqual(getattr(letterings_file, name).__module__, "letterhalls.letterings")


class PlainTests(unittest.TestCase):
    def test_kinds_are_numbered_as_they_come(self):
        ring = samples.one_way_ring(5)
        self.assertEqual(plain(ring, ((4, 4, 4, 4, 4), (0,) * 5))[0], (0, 0, 0, 0, 0))
        self.assertEqual(plain(ring, ((4, 3, 2, 1, 0), (0,) * 5))[0], (0, 1, 2, 3, 4))
        self.assertEqual(plain(ring, ((1, 0, 1, 4, 0), (0,) * 5))[0], (0, 1, 0, 2, 1))
        self.assertEqual(plain(ring, ((0, 1, 2, 3, 4), (0,) * 5))[0], (0, 1, 2, 3, 4))

    def test_letters_are_numbered_for_each_kind_by_itself(self):
        ring = samples.one_way_ring(5)
        self.assertEqual(plain(ring, ((0, 0, 0, 0, 0), (9, 8, 9, 0, 8)))[1], (0, 1, 0, 2, 1))
        self.assertEqual(plain(ring, ((0, 1, 0, 1, 1), (9, 8, 9, 0, 8)))[1], (0, 0, 0, 1, 0))
        self.assertEqual(plain(ring, ((0, 1, 2, 3, 4), (9, 8, 89, 0, 8)))[1], (0, 0, 0, 0, 0))
        self.assertEqual(plain(ring, ((4, 1, 4, 4, 1), (1, 0, 0, 1, 1)))[1], (0, 0, 1, 0, 1))

    def test_letters_come_in_the_order_of_the_doors(self):
        whole = samples.whole(3)
        self.assertEqual(plain(whole, ((0, 0, 0), (5, 3, 3, 5, 4, 3))), ((0, 0, 0), (0, 1, 1, 0, 2, 1)))
        self.assertEqual(plain(whole, ((2, 1, 2), (1, 0, 1, 0, 0, 1))), ((0, 1, 0), (0, 1, 0, 1, 1, 0)))

    def test_single_hall(self):
        self.assertEqual(plain(samples.SINGLE, ((0,), ())), ((0,), ()))

    def test_ninety_doors_of_one_kind_with_unlike_letters(self):
        whole = samples.whole(10)
        letters = tuple(range(90))
        self.assertEqual(plain(whole, ((0,) * 10, letters)), ((0,) * 10, letters))
        self.assertEqual(plain(whole, ((9,) * 10, letters[::-1])), ((0,) * 10, letters))

    def test_all_samples(self):
        for house, lettering in lettered.EVEN + [(house, lettering) for house, lettering, _ in lettered.UNEVEN]:
            with self.subTest(house, lettering=lettering):
                found = plain(house, lettering)
                self.assertEqual(found, lettered.slow_plain(house, lettering))
                self.assertEqual([type(found), type(found[0]), type(found[1])], [tuple] * 3)
                self.assertEqual(plain(house, found), found)

    def test_a_lettering_that_is_not_even_has_a_plain_one_too(self):
        self.assertEqual(plain(samples.SWAP, ((1, 1), (7, 3))), ((0, 0), (0, 1)))

    def test_other_names_do_not_matter(self):
        for house, (kinds, letters) in lettered.EVEN:
            halls = house[0]
            known = {(kind, letter) for (one, _), letter in zip(house[1], letters) for kind in [kinds[one]]}
            names = {key: 89 - at for at, key in enumerate(sorted(known))}
            other = (
                tuple(halls - 1 - kind for kind in kinds),
                tuple(names[kinds[one], letter] for (one, _), letter in zip(house[1], letters)),
            )
            with self.subTest(house, kinds=kinds, letters=letters):
                self.assertEqual(plain(house, other), plain(house, (kinds, letters)))


class MisledTests(unittest.TestCase):
    def test_even_letterings(self):
        for house, lettering in lettered.EVEN:
            with self.subTest(house, lettering=lettering):
                self.assertIsNone(misled(house, lettering))
                self.assertIs(is_even(house, lettering), True)

    def test_other_letterings(self):
        for house, lettering, known in lettered.UNEVEN:
            with self.subTest(house, lettering=lettering):
                found = misled(house, lettering)
                self.assertEqual(found, known)
                self.assertEqual(known, lettered.slow_misled(house, lettering, len(known[2])))
                self.assertEqual([type(found), type(found[2])], [tuple, tuple])
                self.assertIs(is_even(house, lettering), False)

    def test_kinds_that_are_all_unlike_never_mislead(self):
        for house in samples.HOUSES + samples.mixed_houses(10, 10):
            self.assertIs(is_even(house, lettered.still(house)), True)

    def test_all_letterings_of_small_houses(self):
        for house in samples.small_houses(3):
            many = len(house[1])
            for letters in product(range(min(3, many)), repeat=many):
                self.check_all_kinds(house, letters)

    def check_all_kinds(self, house, letters):
        if len({(one, letter) for (one, _), letter in zip(house[1], letters)}) < len(letters):
            return
        for kinds in lettered.plain_kinds(house[0]):
            self.check_by_trial(house, (kinds, letters), 2)

    def check_by_trial(self, house, lettering, longest):
        found = misled(house, lettering)
        if is_even(house, lettering) is not (found is None) or lettered.slow_even(house, lettering) != (found is None):
            self.fail(f"evenness of {house} {lettering}: {found}")
        slow = lettered.slow_misled(house, lettering, longest)
        if slow != found and not (slow is None and found is not None and len(found[2]) > longest):
            self.fail(f"{house} {lettering}: {found}, not {slow}")

    def test_letterings_of_larger_houses(self):
        houses = samples.mixed_houses(4, 6) + samples.mixed_houses(5, 6) + samples.mixed_houses(6, 4)
        for house in houses + [lettered.FOUR, samples.two_way_ring(5), samples.two_way_ring(6)]:
            for lettering in mixed_letterings(house, 25):
                self.check_by_trial(house, lettering, 3)

    def test_even_letterings_with_one_letter_or_kind_changed(self):
        for house, (kinds, letters) in lettered.EVEN:
            if house[0] <= 7:
                for at in range(house[0]):
                    for kind in range(house[0]):
                        self.check_by_trial(house, (kinds[:at] + (kind,) + kinds[at + 1:], letters), 2)
                for at in range(len(letters)):
                    changed = letters[:at] + (88,) + letters[at + 1:]
                    self.check_by_trial(house, (kinds, changed), 2)

    def test_more_than_720_symmetries_are_no_hindrance(self):
        for halls in [7, 8, 9, 10]:
            whole = samples.whole(halls)
            self.assertIs(is_even(whole, lettered.stepped(whole)), True)
            kinds, letters = lettered.stepped(whole)
            self.assertEqual(misled(whole, (kinds, letters[:-1] + (89,))), (0, halls - 1, (halls - 1,)))


def mixed_letterings(house, many):
    """Some letterings of a house, always the same, with few kinds."""
    state = house[0] * 31 + len(house[1])
    found = []
    for at in range(many):
        out, kinds = {}, []
        for hall in range(house[0]):
            state = (state * 1103515245 + 12345) % 2 ** 31
            kinds.append((state >> 16) % (1 + at % 3))
            ends = [other for one, other in house[1] if one == hall]
            turn = (state >> 20) % len(ends)
            out[hall] = dict(zip(ends[turn:] + ends[:turn], range(len(ends))))
        found.append((tuple(kinds), tuple(out[one][other] for one, other in house[1])))
    return found


class WrongArgumentTests(HouseCase):
    def test_wrong_letterings(self):
        for house in [samples.SINGLE, samples.SWAP, samples.LINE, samples.EIGHT, samples.whole(3), samples.whole(10)]:
            for at, (value, part) in enumerate(lettered.wrong_letterings(house)):
                for called in [plain, misled, is_even]:
                    where = (house[0], called.__name__, at)
                    self.check_error(lambda: called(house, value), where, BadLettering, part=part)

    def test_edges_of_kinds_and_letters(self):
        self.assertIs(is_even(samples.SWAP, ((1, 0), (0, 89))), True)
        self.check_error(lambda: is_even(samples.SWAP, ((2, 0), (0, 89))), 0, BadLettering, part="kinds")
        self.check_error(lambda: is_even(samples.SWAP, ((-1, 0), (0, 89))), 1, BadLettering, part="kinds")
        self.check_error(lambda: is_even(samples.SWAP, ((1, 0), (0, 90))), 2, BadLettering, part="letters")
        self.check_error(lambda: is_even(samples.SWAP, ((1, 0), (-1, 89))), 3, BadLettering, part="letters")
        self.assertIs(is_even(samples.whole(10), ((9,) * 10, tuple(range(90)))), False)

    def test_letters_may_be_alike_out_of_unlike_halls_alone(self):
        self.assertEqual(plain(samples.LINE, ((0, 1, 2), (4, 4, 5, 4)))[1], (0, 0, 1, 0))
        for letters in [(4, 4, 4, 4), (4, 5, 5, 4)]:
            self.check_error(lambda: plain(samples.LINE, ((0, 1, 2), letters)), letters, BadLettering, part="letters")

    def test_the_first_word_is_told(self):
        for called in [plain, misled, is_even]:
            self.check_error(lambda: called(samples.SWAP, [[5], [5]]), 0, BadLettering, part="whole")
            self.check_error(lambda: called(samples.SWAP, ((0, 2), (0, 90))), 1, BadLettering, part="kinds")
            self.check_error(lambda: called(samples.SWAP, ((0, True), None)), 2, BadLettering, part="kinds")
            self.check_error(lambda: called(samples.SWAP, ((0, 0, 0), (0,))), 3, BadLettering, part="kinds")

    def test_wrong_houses_come_ahead(self):
        for at, (value, part) in enumerate(samples.WRONG_HOUSES):
            for called in [plain, misled, is_even]:
                for other in [((0, 0), (0, 0)), ((0,), ()), None, [], ((5, 0), (0, 0))]:
                    self.check_error(lambda: called(value, other), (at, called.__name__), BadHouse, part=part)

    def test_arguments_are_not_modified(self):
        values = [[[1, 0], [0, 0]], ([1, 0], [0, 0]), ((1, 0), [0, 0]), {0: [1], 1: [2]}]
        kept = copy.deepcopy(values)
        for value in values:
            for called in [plain, misled, is_even]:
                with self.assertRaises(BadLettering):
                    called(samples.SWAP, value)
                with self.assertRaises(BadHouse):
                    called(value, value)
        self.assertEqual(values, kept)
        for house, lettering in lettered.EVEN:
            kept = copy.deepcopy((house, lettering))
            plain(house, lettering), misled(house, lettering), is_even(house, lettering)
            self.assertEqual((house, lettering), kept)


if __name__ == "__main__":
    unittest.main()
