"""Folds: what even letterings and the groups behind them are made of, kind by kind."""

from letterhalls.checks import is_number, is_pair, is_shuffle
from letterhalls.errors import BadFold
from letterhalls.evenness import group_of
from letterhalls.groups import behind, is_group
from letterhalls.houses import MOST_HALLS, is_house
from letterhalls.letterings import plain, ways_of

# As many turns, and each of as many numbers, as a house has halls at most.
MOST_TURNS = 10


def folded(house, lettering):
    """The fold of an even lettering: its group, and for each kind where the letters of its least hall lead."""
    group = group_of(house, lettering)
    made_plain = plain(house, lettering)
    ways = ways_of(house, made_plain)
    kinds = made_plain[0]
    firsts = [kinds.index(kind) for kind in range(max(kinds) + 1)]
    return (group, tuple([pairs_from(group, kinds, ways[first]) for first in firsts]))


def unfolded(fold):
    """The pair of the house and the even lettering that a fold tells."""
    check_fold(fold)
    turns, table = fold
    lettered = lettered_doors(turns, table)
    house = (len(table) * len(turns), tuple([door for door, letter in lettered]))
    # Two letters that make one door make it stand twice, and so what is no house.
    if not is_house(house):
        raise BadFold("table")
    kinds = [kind for kind in range(len(table)) for _ in turns]
    return (house, (tuple(kinds), tuple([letter for door, letter in lettered])))


def check_fold(value):
    """Raise BadFold for a value that is no fold."""
    fault = fold_fault(value)
    if fault is not None:
        raise BadFold(fault)


def fold_fault(value):
    """The word of BadFold for a value, None for a fold."""
    if not is_pair(value):
        return "whole"
    turns, table = value
    if not are_turns(turns):
        return "turns"
    if not is_table(turns, table):
        return "table"
    return None


def are_turns(value):
    """Whether a value is an ascending tuple of turns, the still one and what is behind each other among them."""
    if not isinstance(value, tuple) or not 1 <= len(value) <= MOST_TURNS:
        return False
    if not isinstance(value[0], tuple) or not 1 <= len(value[0]) <= MOST_TURNS:
        return False
    size = len(value[0])
    return all([is_shuffle(item, size) for item in value]) and is_group(size, value)


def is_table(turns, value):
    """Whether a value tells for each kind, and for each of its letters, a pair of a kind and a turn."""
    if not isinstance(value, tuple) or len(value) * len(turns) > MOST_HALLS:
        return False
    if not all([isinstance(row, tuple) for row in value]):
        return False
    return all([is_end(turns, len(value), item) for row in value for item in row])


def is_end(turns, kinds, value):
    """Whether a value is a pair of one of so many kinds and one of the turns."""
    if not is_pair(value) or not is_number(value[0], 0, kinds - 1):
        return False
    # A tuple of booleans may be equal to a turn, and is none.
    return is_shuffle(value[1], len(turns[0])) and value[1] in turns


def lettered_doors(turns, table):
    """The ascending list of pairs of a door and its letter that a fold tells."""
    many = len(turns)
    found = []
    for kind, row in enumerate(table):
        for letter, (later, turn) in enumerate(row):
            for place, first in enumerate(turns):
                end = later * many + turns.index(behind(turn, first))
                found.append(((kind * many + place, end), letter))
    return sorted(found)


def pairs_from(group, kinds, way):
    """The tuple, for each letter 0, 1, .. of a hall, of the pair of the kind and the turn of the hall it leads to."""
    return tuple([pair_of(group, kinds, way[letter]) for letter in range(len(way))])


def pair_of(group, kinds, hall):
    """The pair of the kind of a hall, and the symmetry of a free group that leads the least hall of that kind to it."""
    kind = kinds[hall]
    first = kinds.index(kind)
    return (kind, [turn for turn in group if turn[first] == hall][0])
