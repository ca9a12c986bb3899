"""What values must be, whatever they are used for."""

from letterhalls.errors import BadNumber


def is_number(value, low, high):
    """Whether a value is an integer, and no boolean, within two limits."""
    return isinstance(value, int) and not isinstance(value, bool) and low <= value <= high


def check_number(value, low, high):
    """Raise BadNumber for a value that is no integer within two limits."""
    if not is_number(value, low, high):
        raise BadNumber(f"no number from {low} to {high}")


def is_pair(value):
    """Whether a value is a tuple of two items."""
    return isinstance(value, tuple) and len(value) == 2


def are_numbers(value, many, high):
    """Whether a value is a tuple of so many integers from 0 to a limit."""
    # Items of a tuple that is too long are not looked at, however many they are.
    return isinstance(value, tuple) and len(value) == many and all([is_number(item, 0, high) for item in value])


def is_shuffle(value, size):
    """Whether a value is a tuple of all numbers below a size, in any order."""
    # Only when all items are known to be integers can they be members of a set.
    return are_numbers(value, size, size - 1) and len(set(value)) == size


def ascends(items):
    """Whether each item of a tuple is above the one ahead of it."""
    return all([items[place] < items[place + 1] for place in range(len(items) - 1)])
