"""Point 1 and what the points promise across modules: the whole program at once."""

import copy
import importlib
import inspect
import unittest
from itertools import product

from letterhalls.errors import BadHouse, HallError, NoLettering, NotEven, TooMany
from letterhalls.evenness import (
    count_letterings, even_lettering, group_of, kinds_there, least_kinds, lettering_of, letterings,
    shows_even_lettering,
)
from letterhalls.folds import folded, unfolded
from letterhalls.groups import free_groups
from letterhalls.houses import doors_out, far, is_house, is_two_way, turned
from letterhalls.housetexts import read_house, read_lettering, write_house, write_lettering
from letterhalls.letterings import is_even, misled, plain
from letterhalls.likes import are_alike, like, shows_like
from letterhalls.symmetries import is_symmetry, lots, symmetries
from letterhalls.walkers import Walker
from letterhalls.walks import comes_back, could_be, count_back, shortest_back, walk
from tests import folding, lettered, samples
from tests.cases import HouseCase
from tests.test_likes import UNLIKE

# What the interface lists: the names in each module, and their arguments.
INTERFACE = {
    "houses": {
        "is_house": ["value"], "is_two_way": ["house"], "doors_out": ["house", "hall"], "turned": ["house"],
        "far": ["house", "one", "other"],
    },
    "symmetries": {"symmetries": ["house"], "lots": ["house"], "is_symmetry": ["house", "value"]},
    "groups": {"free_groups": ["house"]},
    "letterings": {
        "plain": ["house", "lettering"], "misled": ["house", "lettering"], "is_even": ["house", "lettering"],
    },
    "evenness": {
        "letterings": ["house", "kinds"], "kinds_there": ["house"], "group_of": ["house", "lettering"],
        "count_letterings": ["house", "kinds"], "least_kinds": ["house"], "even_lettering": ["house", "kinds"],
        "lettering_of": ["house", "group"], "shows_even_lettering": ["house", "kinds", "value"],
        "are_one": ["house", "one", "other"],
    },
    "walks": {
        "walk": ["house", "lettering", "hall", "row"], "could_be": ["house", "lettering", "row"],
        "comes_back": ["house", "lettering", "kind", "row"], "count_back": ["house", "lettering", "kind", "size"],
        "shortest_back": ["house", "lettering", "kind"],
    },
    "walkers": {"Walker": ["house", "lettering", "hall"]},
    "folds": {"folded": ["house", "lettering"], "unfolded": ["fold"]},
    "likes": {"like": ["one", "other"], "are_alike": ["one", "other"], "shows_like": ["one", "other", "value"]},
    "housetexts": {
        "write_house": ["house"], "write_lettering": ["house", "lettering"], "read_house": ["text"],
        "read_lettering": ["text"],
    },
}

SWAP = samples.SWAP
# Arguments that may stand, for each name of the interface.
GOOD = {
    "house": SWAP, "value": SWAP, "hall": 1, "one": SWAP, "other": SWAP, "lettering": ((0, 0), (0, 0)), "kinds": 1,
    "group": ((0, 1), (1, 0)), "row": (0,), "kind": 0, "size": 2, "fold": folding.FOLDS[3], "text": "halls 2\n0 > 1\n1 > 0",
}
OTHERS = {
    ("far", "one"): 0, ("far", "other"): 1, ("is_symmetry", "value"): (1, 0), ("are_one", "one"): ((0, 0), (0, 0)),
    ("are_one", "other"): ((1, 1), (5, 5)), ("shows_even_lettering", "value"): ((0, 0), (0, 0)),
    ("shows_like", "value"): (1, 0), ("read_lettering", "text"): "halls 2\n0 0 > 1:0\n1 0 > 0:0",
}
# Values of all kinds that may be passed for any argument, few enough to be tried for all arguments at once.
FEW = [1, -1, 10 ** 40, True, None, "", "0 > 1", (), (0, 1), ((0, 0), (0, 0)), [], [0, 1], {}, {0: [1]}, ([0], {1: ()})]
# Houses with few and with many symmetries, all of which are no more than 720.
SOME = samples.HOUSES + list(samples.small_houses(3)) + samples.mixed_houses(5, 6)


def all_names():
    """Triples of each name of the interface that can be called, the function or class, and its arguments."""
    for module, names in INTERFACE.items():
        for name, arguments in names.items():
            yield name, getattr(importlib.import_module(f"letterhalls.{module}"), name), arguments


def good_for(name, argument):
    return OTHERS.get((name, argument), GOOD[argument])


def told(value):
    """A value that a function returned, that of a walker being all that it tells."""
    if isinstance(value, Walker):
        return value.hall, value.row, value.is_home, value.seen, value.beliefs
    return value


def outcome(called, values):
    """What a call returns or raises; other errors than those of the package are let through."""
    try:
        return told(called(*values))
    except HallError as error:
        return type(error).__name__, vars(error)


class InterfaceTests(unittest.TestCase):
    def test_names_arguments_and_files(self):
        for module, names in INTERFACE.items():
            for name, arguments in names.items():
                found = getattr(importlib.import_module(f"letterhalls.{module}"), name)
                with self.subTest(module, name=name):
                    self.assertEqual(found.__module__, f"letterhalls.{module}")
                    self.assertEqual(list(inspect.signature(found).parameters), arguments)
        self.assertEqual(list(inspect.signature(Walker.step).parameters), ["self", "letter"])
        self.assertEqual(list(inspect.signature(Walker.undo).parameters), ["self"])

    def test_arguments_may_be_named(self):
        for name, called, arguments in all_names():
            values = {argument: good_for(name, argument) for argument in arguments}
            self.assertEqual(told(called(**values)), told(called(*values.values())), name)


class AnyValueTests(unittest.TestCase):
    def test_good_arguments_raise_nothing(self):
        for name, called, arguments in all_names():
            values = [good_for(name, argument) for argument in arguments]
            self.assertEqual(outcome(called, values), told(called(*values)), name)

    def test_any_value_for_one_argument(self):
        for name, called, arguments in all_names():
            good = [good_for(name, argument) for argument in arguments]
            for at in range(len(good)):
                for value in samples.ANY_VALUES + FEW:
                    self.check_call(name, called, good[:at] + [value] + good[at + 1:])
                # Too deep to be compared, so that it is only passed.
                outcome(called, good[:at] + [samples.deep(3000)] + good[at + 1:])

    def test_any_values_for_all_arguments(self):
        for name, called, arguments in all_names():
            for values in product(FEW, repeat=min(3, len(arguments))):
                rest = [good_for(name, argument) for argument in arguments[3:]]
                self.check_call(name, called, list(values) + rest)
                if len(arguments) == 4:
                    self.check_call(name, called, [SWAP] + list(values))

    def check_call(self, name, called, values):
        """Check that a call returns a value or raises an error of the package, always the same."""
        kept = copy.deepcopy(values)
        first = outcome(called, values)
        if outcome(called, values) != first:
            self.fail(f"{name} {values}: not always the same")
        if values != kept:
            self.fail(f"{name} {values}: arguments are modified")
        if name.startswith(("shows_", "is_", "are_")) and type(first) is not bool:
            self.assertTrue(first[0].startswith("Bad"), name)

    def test_shows_for_any_value_of_the_last_argument(self):
        values = samples.ANY_VALUES + FEW + [
            samples.deep(3000), ((0, 0), (0, 0)), ((0, 1), (0, 0)), ((0, 0), (0, 1)), ((0, 0), [0, 0]), (0, 1), (1, 0),
            (1, False), ((0, 0), (True, True)),
        ]
        for value in values:
            for kinds in range(1, 11):
                self.assertIn(shows_even_lettering(SWAP, kinds, value), [True, False])
                self.assertIs(type(shows_even_lettering(SWAP, kinds, value)), bool)
            for other in [SWAP, samples.SINGLE, samples.RING]:
                self.assertIs(type(shows_like(SWAP, other, value)), bool)

    def test_booleans_are_no_integers(self):
        self.assertIs(is_house((True, ())), False)
        self.assertIs(is_house((2, ((False, True), (True, False)))), False)
        self.assertIs(is_symmetry(SWAP, (True, False)), False)
        self.assertIs(shows_like(SWAP, SWAP, (True, False)), False)
        self.assertIs(shows_even_lettering(SWAP, 1, ((False, False), (0, 0))), False)
        for name, called, arguments in all_names():
            for at, argument in enumerate(arguments):
                if argument in ("hall", "kinds", "kind", "size") or name == "far" and at:
                    for value in [True, False]:
                        values = [good_for(name, other) for other in arguments]
                        values[at] = value
                        with self.subTest(name, argument=argument), self.assertRaises(HallError):
                            called(*values)

    def test_what_comes_behind_the_errors_of_all_arguments(self):
        # More than 720 symmetries: BadNumber ahead of TooMany, TooMany ahead of NoLettering.
        whole = samples.whole(7)
        for kinds, name in [(0, "BadNumber"), (None, "BadNumber"), (2, "TooMany"), (7, "TooMany")]:
            for called in [letterings, count_letterings, even_lettering]:
                self.assertEqual(outcome(called, [whole, kinds])[0], name)
        with self.assertRaises(NoLettering):
            even_lettering(SWAP, 3)
        uneven = ((0, 0), (0, 1))
        self.assertEqual(outcome(comes_back, [SWAP, uneven, 1, (90,)])[0], "BadKind")
        self.assertEqual(outcome(comes_back, [SWAP, uneven, 0, (90,)])[0], "BadRow")
        self.assertEqual(outcome(comes_back, [SWAP, uneven, 0, (9,)])[0], "NotEven")
        self.assertEqual(outcome(count_back, [SWAP, uneven, 0, 61])[0], "BadNumber")
        self.assertEqual(outcome(folded, [SWAP, uneven])[0], "NotEven")
        self.assertEqual(outcome(group_of, [SWAP, uneven])[0], "NotEven")


class AcrossModulesTests(HouseCase):
    def each_even(self):
        """All pairs of a house and an even lettering of many, the letterings plain and others."""
        for house, lettering in lettered.EVEN:
            yield house, lettering
        for house in SOME:
            for kinds in kinds_there(house):
                for lettering in letterings(house, kinds):
                    yield house, lettering

    def test_kinds_are_the_lots_of_halls_of_the_group(self):
        for house, lettering in self.each_even():
            group = group_of(house, lettering)
            made = {tuple(sorted({turn[hall] for turn in group})) for hall in range(house[0])}
            kinds = lettering[0]
            due = {tuple(hall for hall in range(house[0]) if kinds[hall] == kind) for kind in kinds}
            if made != due or len(group) * len(made) != house[0]:
                self.fail(f"{house} {lettering}: {group}")

    def test_group_and_lettering_take_each_other_back(self):
        for house, lettering in self.each_even():
            group = group_of(house, lettering)
            if lettering_of(house, group) != plain(house, lettering):
                self.fail(f"{house} {lettering}: {group}")
        for house in SOME:
            for group in free_groups(house):
                lettering = lettering_of(house, group)
                if group_of(house, lettering) != group or not is_even(house, lettering):
                    self.fail(f"{house} {group}: {lettering}")

    def test_the_group_is_made_of_symmetries(self):
        for house, lettering in self.each_even():
            self.assertTrue(all(is_symmetry(house, turn) for turn in group_of(house, lettering)))

    def test_as_many_letterings_as_free_groups(self):
        for house in SOME:
            groups = free_groups(house)
            for kinds in range(1, 11):
                due = [group for group in groups if len(group) * kinds == house[0]]
                self.assertEqual(count_letterings(house, kinds), len(due))
                found = letterings(house, kinds)
                self.assertEqual(found, tuple(sorted(lettering_of(house, group) for group in due)))
            self.assertEqual(sum(count_letterings(house, kinds) for kinds in range(1, 11)), len(groups))
            self.assertEqual(least_kinds(house), house[0] // max(len(group) for group in groups))

    def test_an_even_lettering_misleads_nobody(self):
        for house, lettering in self.each_even():
            self.assertIsNone(misled(house, lettering))
            kinds = lettering[0]
            for letter in sorted(set(lettering[1])):
                for hall, kind in enumerate(kinds):
                    end = walk(house, lettering, hall, (letter,))
                    first = walk(house, lettering, kinds.index(kind), (letter,))
                    self.assertEqual(end is None, first is None)
                    self.assertTrue(end is None or kinds[end] == kinds[first])

    def test_what_is_unfolded_is_even(self):
        for fold in folding.FOLDS:
            house, lettering = unfolded(fold)
            self.assertTrue(is_house(house))
            self.assertIs(is_even(house, lettering), True)
            self.assertIs(shows_even_lettering(house, len(fold[1]), lettering), True)

    def test_a_folded_and_unfolded_house_is_alike(self):
        for house, lettering in self.each_even():
            other, other_lettering = unfolded(folded(house, lettering))
            if not are_alike(house, other) or not shows_like(house, other, like(house, other)):
                self.fail(f"{house} {lettering}: {other}")
            self.assertEqual(len(group_of(other, other_lettering)), len(group_of(house, lettering)))

    def test_what_is_written_and_read(self):
        for house, lettering in self.each_even():
            self.assertEqual(read_house(write_house(house)), house)
            self.assertEqual(read_lettering(write_lettering(house, lettering)), (house, lettering))

    def test_symmetries_are_the_maps_to_the_house_itself(self):
        for house in SOME:
            self.assertIn(like(house, house), symmetries(house))
            for turn in symmetries(house):
                self.assertIs(shows_like(house, house, turn), True)
            # Another hall of a lot is as far from as many halls.
            for lot in lots(house):
                self.assertEqual(len({
                    tuple(sorted(far(house, hall, other) for other in range(house[0]))) for hall in lot
                }), 1)

    def test_alike_houses_have_as_many_symmetries_and_letterings(self):
        for house in SOME:
            other = samples.renamed(house, tuple(reversed(range(house[0]))))
            self.assertEqual(len(symmetries(house)), len(symmetries(other)))
            self.assertEqual(len(free_groups(house)), len(free_groups(other)))
            self.assertEqual(kinds_there(house), kinds_there(other))
            self.assertIs(is_two_way(house), is_two_way(other))
            self.assertIs(are_alike(turned(house), turned(other)), True)
        for one, other in product(UNLIKE[0], repeat=2):
            self.assertIs(are_alike(one, other), one == other)

    def test_walkers_walk_as_rows_do(self):
        for house, lettering in self.each_even():
            for kind in sorted(set(lettering[0])):
                row = shortest_back(house, lettering, kind)
                if row is None:
                    self.assertEqual(house, samples.SINGLE)
                    continue
                start = lettering[0].index(kind)
                walker = Walker(house, lettering, start)
                for size, letter in enumerate(row, start=1):
                    walker.step(letter)
                    self.assertEqual(walker.hall, walk(house, lettering, start, row[:size]))
                    self.assertEqual(walker.beliefs, could_be(house, lettering, row[:size]))
                    self.assertIs(walker.is_home, comes_back(house, lettering, kind, row[:size]))
                    self.assertIs(walker.is_home, size == len(row))
                    self.assertIn(walker.hall, walker.beliefs)
                self.assertGreater(count_back(house, lettering, kind, len(row)), 0)

    def test_returned_values_are_new_or_cannot_be_changed(self):
        for name, called, arguments in all_names():
            values = [good_for(name, argument) for argument in arguments]
            found = told(called(*values))
            self.assertTrue(is_fixed(found), name)
            self.assertEqual(values, copy.deepcopy(values))

    def test_doors_out_are_the_letters_of_a_text(self):
        for house, lettering in lettered.EVEN:
            for hall, line in enumerate(write_lettering(house, lettering).split("\n")[1:]):
                ends = tuple(int(word.split(":")[0]) for word in line.split(" ")[3:])
                self.assertEqual(ends, doors_out(house, hall))


class ManySymmetriesTests(HouseCase):
    def test_where_more_than_720_are_an_error(self):
        house, lettering = samples.whole(7), lettered.stepped(samples.whole(7))
        for called in [symmetries, lots, free_groups, kinds_there, least_kinds]:
            self.check_error(lambda: called(house), called.__name__, TooMany, most=720)
        for called in [letterings, count_letterings, even_lettering]:
            self.check_error(lambda: called(house, 7), called.__name__, TooMany, most=720)
        # All others answer.
        self.assertIs(is_symmetry(house, (1, 0, 2, 3, 4, 5, 6)), True)
        self.assertIs(is_even(house, lettering), True)
        group = group_of(house, lettering)
        self.assertEqual(lettering_of(house, group), plain(house, lettering))
        self.assertIs(are_alike(unfolded(folded(house, lettering))[0], house), True)
        self.assertEqual(read_lettering(write_lettering(house, lettering)), (house, lettering))
        self.assertEqual(Walker(house, lettering, 3).beliefs, tuple(range(7)))

    def test_errors_of_arguments_come_ahead(self):
        bad = (7, samples.whole(7)[1][1:] + ((6, 6),))
        for called in [symmetries, lots, free_groups, kinds_there, least_kinds]:
            self.check_error(lambda: called(bad), called.__name__, BadHouse, part="doors")
        self.check_error(lambda: folded(samples.whole(7), ((0,) * 7, lettered.still(samples.whole(7))[1])), 0, NotEven)


def is_fixed(value):
    """Whether a value is one that cannot be changed, throughout."""
    if type(value) is tuple:
        return all(is_fixed(item) for item in value)
    return value is None or type(value) in (int, bool, str)


if __name__ == "__main__":
    unittest.main()
