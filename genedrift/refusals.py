"""The numbers that a refused call answers, and the checks behind the two commonest."""

NO_SUCH_CALL = -100
NO_COPIES = -1
NUMBER_OUT_OF_RANGE = -3
WRONG_LIST = -4
TOO_MANY = -5
NOTHING_TO_UNDO = -6
LAST_GENERATION = -8


def is_within(number, low, high):
    """Whether number is one from low to high."""
    return low <= number <= high


def are_within(numbers, low, high):
    """Whether each of these numbers is one from low to high."""
    for number in numbers:
        if not is_within(number, low, high):
            return False
    return True


def is_list_within(members, shortest, longest, low, high):
    """Whether there are shortest to longest members, each from low to high."""
    return is_within(len(members), shortest, longest) and are_within(members, low, high)
