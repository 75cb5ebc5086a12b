"""How many runs of draws there are."""


def power(base, exponent):
    """base times itself, exponent times."""
    product = 1
    for step in range(exponent):
        product *= base
    return product


def count_runs(n, t):
    """How many runs of t generations n copies have."""
    rows_of_draws = power(n, n)
    return power(rows_of_draws, t)
