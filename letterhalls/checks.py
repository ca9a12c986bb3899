"""What values must be, whatever they are used for."""


def is_number(value, low, high):
    """Whether a value is an integer, and no boolean, within two limits."""
    return isinstance(value, int) and not isinstance(value, bool) and low <= value <= high


def is_pair(value):
    """Whether a value is a tuple of two items."""
    return isinstance(value, tuple) and len(value) == 2


def is_shuffle(value, size):
    """Whether a value is a tuple of all numbers below a size, in any order."""
    if not isinstance(value, tuple) or len(value) != size:
        return False
    # Only when all items are known to be integers can they be members of a set.
    return all([is_number(item, 0, size - 1) for item in value]) and len(set(value)) == size


def ascends(items):
    """Whether each item of a tuple is above the one ahead of it."""
    return all([items[place] < items[place + 1] for place in range(len(items) - 1)])
