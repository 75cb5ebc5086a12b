"""How the tests write calls and take answers apart."""

from genedrift.desk import answers

LEAST = -9223372036854775808
GREATEST = 9223372036854775807
FAR_NUMBERS = [LEAST, -1000, -1, 1000, GREATEST]


def listed(number, members):
    return [number, len(members)] + list(members)


def found(kinds):
    return listed(0, kinds)


def now():
    return [1]


def turn(draws):
    return listed(2, draws)


def undo():
    return [3]


def number(k):
    return [4, k]


def back(t, c):
    return [5, t, c]


def common(copies):
    return listed(6, copies)


def lines(t):
    return [7, t]


def every(t):
    """The call 8, all."""
    return [8, t]


def ways(i, j, t):
    return [9, i, j, t]


def first(i, t):
    return [10, i, t]


def merge(m, k, t):
    return [11, m, k, t]


def alike(t):
    return [12, t]


def unlike(i, t):
    return [13, i, t]


def toward(c, d):
    return listed(14, c) + [len(d)] + list(d)


def takes(i, a, b):
    return [15, i, a, b]


def chances(i, a, b):
    return [16, i, a, b]


def taken_apart(told):
    """The answers, each as a list of its own."""
    parts = []
    at = 0
    while at < len(told):
        end = at + 1 + told[at]
        if told[at] < 1 or end > len(told):
            raise AssertionError(f"no answer of {told[at]} numbers at {at}")
        parts.append(told[at + 1:end])
        at = end
    return parts


def ask(*calls):
    """The answer of each of these calls, which are handed in as one list."""
    told = answers([member for call in calls for member in call])
    if type(told) is not list or any(type(member) is not int for member in told):
        raise AssertionError(f"not a list of whole numbers: {told}")
    parts = taken_apart(told)
    if len(parts) != len(calls):
        raise AssertionError(f"{len(parts)} answers to {len(calls)} calls")
    return parts


def last(*calls):
    """The answer of the last of these calls."""
    return ask(*calls)[-1]


def asked_of(n, calls):
    """The answer of each of these calls of n copies, in as many lists of calls as are needed."""
    told = []
    for start in range(0, len(calls), 399):
        told += ask(found([0] * n), *calls[start:start + 399])[1:]
    return told


def numbers_of(n, calls):
    """The one number that each of these calls of n copies answers; none of them is refused."""
    told = asked_of(n, calls)
    for call, answer in zip(calls, told):
        if len(answer) != 1 or answer[0] < 0:
            raise AssertionError(f"{call} of {n} copies answers {answer}")
    return [answer[0] for answer in told]
