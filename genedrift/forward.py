"""Over all draws that could be, looked at forward: how many copies come of some told ones.

A row of counts tells, at its place j, for how many runs just j copies at the end come of the told ones.
"""

from genedrift.runs import power


def choose(size, amount):
    """In how many ways this amount can be taken out of so many."""
    ways = 1
    for step in range(amount):
        # Behind each step it's a number of ways itself, so nothing is lost by the division.
        ways = ways * (size - step) // (step + 1)
    return ways


def count_draws(n, i, j):
    """For how many rows of draws just j copies come of i told ones."""
    return choose(n, j) * power(i, j) * power(n - i, n - j)


def counts_at_start(n, i):
    """The counts over the one run of no generations."""
    counts = [0] * (n + 1)
    counts[i] = 1
    return counts


def counts_one_later(n, counts):
    """The counts over runs that are longer by a generation at the end."""
    later = [0] * (n + 1)
    for i in range(n + 1):
        if counts[i] > 0:
            for j in range(n + 1):
                later[j] += counts[i] * count_draws(n, i, j)
    return later


def count_ways(n, i, t):
    """The counts over all runs of t generations, for the first i copies."""
    counts = counts_at_start(n, i)
    for step in range(t):
        counts = counts_one_later(n, counts)
    return counts


def count_first(n, i, t):
    """For how many runs of t generations all copies come of the first i at the end, and not sooner."""
    counts = counts_at_start(n, i)
    for step in range(t):
        # Once all copies come of the first i it stays so: these runs are too soon, however they go on.
        counts[n] = 0
        counts = counts_one_later(n, counts)
    return counts[n]


def sum_unlike(n, i, t):
    """The sum of j * (n - j) over all runs of t generations."""
    counts = count_ways(n, i, t)
    return sum([counts[j] * j * (n - j) for j in range(n + 1)])


def count_toward(n, old_amounts, new_amounts):
    """For how many rows of draws the kinds' numbers of copies go from the old ones to the new ones."""
    ways = 1
    left = n
    for kind in range(len(old_amounts)):
        amount = new_amounts[kind]
        ways = ways * choose(left, amount) * power(old_amounts[kind], amount)
        left -= amount
    return ways
