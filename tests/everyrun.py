"""Every run, one by one, straight from the document's words; and how long runs may be."""

import itertools

MOST_RUNS = 10 ** 18

# For these n and t there are few enough runs to go through all of them.
SMALL = [(n, t) for n in (1, 2, 3) for t in (0, 1, 2)] + [(4, 0), (4, 1)]


def rows_of_draws(n):
    return list(itertools.product(range(n), repeat=n))


def runs_of(n, t):
    return itertools.product(rows_of_draws(n), repeat=t)


def comes_of(run, c):
    """The copy at the run's beginning that copy c at its end comes of."""
    for row in reversed(run):
        c = row[c]
    return c


def ancestors(run, n):
    return [comes_of(run, c) for c in range(n)]


def amount_of_first(run, n, i):
    """How many copies at the run's end come of the first i at its beginning."""
    return sum(1 for old in ancestors(run, n) if old < i)


def lengths(n):
    """Each t for which there are not more runs than the most."""
    return [t for t in range(21) if n ** (n * t) <= MOST_RUNS]
