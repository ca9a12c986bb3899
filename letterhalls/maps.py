"""Maps of the halls of one house to those of another, one to one, that lead just the doors to doors."""

from letterhalls.checks import is_shuffle


def is_map(one, other, value):
    """Whether any value is a map of the halls of one house to those of another that leads just the doors to doors."""
    if one[0] != other[0] or len(one[1]) != len(other[1]) or not is_shuffle(value, one[0]):
        return False
    # There are as many doors in both, so if each is led to one, all others are led to none.
    return all([(value[begin], value[end]) in other[1] for begin, end in one[1]])


def least_maps(one, other, most):
    """The ascending list of the least maps of one house to another, no more of them than `most`."""
    if sorted(marks_of(one)) != sorted(marks_of(other)):
        return []
    halls = one[0]
    doors = {door: True for door in one[1]}
    others = {door: True for door in other[1]}
    choices = choices_of(one, other)
    found = []
    waiting = [()]
    while waiting and len(found) < most:
        start = waiting.pop()
        if len(start) == halls:
            found.append(start)
            continue
        # The least hall is put last, hence taken first: so the maps are found ascending.
        for hall in reversed(choices[len(start)]):
            if goes_on(doors, others, start, hall):
                waiting.append(start + (hall,))
    return found


def marks_of(house):
    """A list that has for each hall of a house how many doors lead out of it, and how many into it."""
    begins = [begin for begin, end in house[1]]
    ends = [end for begin, end in house[1]]
    return [(begins.count(hall), ends.count(hall)) for hall in range(house[0])]


def choices_of(one, other):
    """A list that has for each hall of one house the ascending list of the halls of another with the same marks."""
    marks = marks_of(other)
    return [[hall for hall, known in enumerate(marks) if known == mark] for mark in marks_of(one)]


def goes_on(doors, others, start, hall):
    """Whether the next hall can be led to this one, if the halls ahead of it are led as the start tells."""
    if hall in start:
        return False
    due = len(start)
    # A map leads just the doors to doors, so what is no door is led to none either.
    for ahead, led in enumerate(start):
        if ((ahead, due) in doors) != ((led, hall) in others):
            return False
        if ((due, ahead) in doors) != ((hall, led) in others):
            return False
    return True
