"""Letterings of houses: what is one, what it is when plain, and which rows of letters mislead."""

from letterhalls.checks import are_numbers, is_pair
from letterhalls.errors import BadLettering, NotEven
from letterhalls.houses import check_house

MOST_LETTER = 89


def plain(house, lettering):
    """The lettering with its kinds, and for each kind its letters, numbered 0, 1, .. as they come."""
    check_house(house)
    check_lettering(house, lettering)
    return (plain_kinds(lettering), plain_letters(house, lettering))


def misled(house, lettering):
    """The triple (hall, hall, row) of the least of the shortest rows that mislead, None if none does."""
    check_house(house)
    check_lettering(house, lettering)
    return least_misled(ways_of(house, lettering), lettering[0])


def is_even(house, lettering):
    """Whether no row misleads from any two halls."""
    return misled(house, lettering) is None


def check_lettering(house, value):
    """Raise BadLettering for a value that is no lettering of a house."""
    fault = lettering_fault(house, value)
    if fault is not None:
        raise BadLettering(fault)


def check_even(house, lettering):
    """Raise NotEven for a lettering that is not even."""
    if not is_even(house, lettering):
        raise NotEven("a row of letters misleads")


def lettering_fault(house, value):
    """The word of BadLettering for a value, None for a lettering of a house."""
    halls, doors = house
    if not is_pair(value):
        return "whole"
    kinds, letters = value
    if not are_numbers(kinds, halls, halls - 1):
        return "kinds"
    if not are_numbers(letters, len(doors), MOST_LETTER) or not are_unlike(doors, letters):
        return "letters"
    return None


def are_unlike(doors, letters):
    """Whether the letters of doors out of one hall are unlike."""
    return len({(door[0], letter) for door, letter in zip(doors, letters)}) == len(doors)


def plain_kinds(lettering):
    """The kinds of a lettering, numbered as they come in the order of halls."""
    numbers = {}
    for kind in lettering[0]:
        numbers.setdefault(kind, len(numbers))
    return tuple([numbers[kind] for kind in lettering[0]])


def plain_letters(house, lettering):
    """The letters of a lettering, numbered for each kind as they come in the order of doors."""
    kinds, letters = lettering
    numbers = [{} for _ in kinds]
    found = []
    for door, letter in zip(house[1], letters):
        known = numbers[kinds[door[0]]]
        found.append(known.setdefault(letter, len(known)))
    return tuple(found)


def ways_of(house, lettering):
    """A list that has for each hall a dict of the halls to which its letters lead."""
    ways = [{} for _ in range(house[0])]
    for (one, other), letter in zip(house[1], lettering[1]):
        ways[one][letter] = other
    return ways


def least_misled(ways, kinds):
    """The triple that `misled` tells."""
    # A state is two halls where a row begins, and the two where it has come to. States that an
    # earlier row has come to are left out: whatever misleads from them does so behind that row.
    starts = pairs_of_kinds(kinds)
    seen = {state: True for state in starts}
    waiting = [((), starts)]
    while waiting:
        row, states = waiting.pop(0)
        for letter in letters_of(ways, states):
            longer = row + (letter,)
            later = states_behind(ways, states, letter)
            for state in later:
                if is_wrong(kinds, state):
                    return (state[0], state[1], longer)
            fresh = [state for state in later if state not in seen]
            if fresh:
                seen.update({state: True for state in fresh})
                waiting.append((longer, fresh))
    return None


def pairs_of_kinds(kinds):
    """The ascending list of the states of two halls of one kind where no step is taken yet."""
    halls = range(len(kinds))
    pairs = [(one, other) for one in halls for other in halls if one < other and kinds[one] == kinds[other]]
    return [(one, other, one, other) for one, other in pairs]


def letters_of(ways, states):
    """The ascending list of the letters of doors out of the halls where states have come to."""
    return sorted({letter for state in states for hall in state[2:] for letter in ways[hall]})


def states_behind(ways, states, letter):
    """The states one letter later, with None for a hall where it can't be walked; none for those where both can't."""
    found = []
    for one, other, here, there in states:
        if letter in ways[here] or letter in ways[there]:
            found.append((one, other, ways[here].get(letter), ways[there].get(letter)))
    return found


def is_wrong(kinds, state):
    """Whether the row that has come to a state misleads from the two halls where it began."""
    one, other, here, there = state
    if here is None or there is None:
        return True
    return kinds[here] != kinds[there] or (here == one) != (there == other)
