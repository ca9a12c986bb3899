"""Free groups: symmetries of a house of which only the still one leaves any hall."""

from letterhalls.checks import ascends
from letterhalls.symmetries import symmetries


def free_groups(house):
    """The ascending tuple of all free groups of a house."""
    movers = [turn for turn in symmetries(house) if not leaves_any(turn)]
    least = (still_turn(house[0]),)
    found = {least: True}
    waiting = [least]
    while waiting:
        group = waiting.pop()
        for turn in movers:
            larger = group_with(group, turn)
            if larger is not None and larger not in found:
                found[larger] = True
                waiting.append(larger)
    return tuple(sorted(found))


def is_free_group(halls, turns):
    """Whether a tuple of symmetries of a house of so many halls is a free group."""
    return is_group(halls, turns) and not any([leaves_any(turn) for turn in turns[1:]])


def is_group(size, turns):
    """Whether a tuple of turns of so many numbers ascends, the still one and what is behind each other among them."""
    # The still one is the least of all, so it comes first in what is ascending.
    if not turns or turns[0] != still_turn(size) or not ascends(turns):
        return False
    return all([behind(one, other) in turns for one in turns for other in turns])


def still_turn(size):
    """The turn that leaves all places."""
    return tuple(range(size))


def leaves_any(turn):
    """Whether a symmetry leaves any hall."""
    return any([hall == led for hall, led in enumerate(turn)])


def behind(one, other):
    """The turn that leads each place as the one does, and from there as the other behind it."""
    return tuple([other[hall] for hall in one])


def group_with(group, turn):
    """The least free group that has a free group and one more symmetry within it, None without any."""
    # Two symmetries of a free group that lead hall 0 to one hall are the same: what comes back
    # from one of them by the other leaves hall 0, so it is the still one.
    makers = group + (turn,)
    found = {member[0]: member for member in group}
    waiting = [behind(member, turn) for member in group]
    while waiting:
        newest = waiting.pop()
        if newest[0] not in found:
            if leaves_any(newest):
                return None
            found[newest[0]] = newest
            waiting.extend([behind(newest, maker) for maker in makers])
        elif found[newest[0]] != newest:
            return None
    return tuple(sorted(found.values()))
