"""Over all draws that could be, looked at backward: of how many different copies some told ones come.

A row of counts tells, at its place k, for how many draws or runs the told copies come of just k different ones.
"""

from genedrift.runs import power


def count_with_one_more(n, counts, k):
    """The count at k, with one told copy more: its parent is one of those k, or it's the last of the k."""
    seen_parent = counts[k] * k
    if k == 0:
        return seen_parent
    return seen_parent + counts[k - 1] * (n - (k - 1))


def count_parents(n, m):
    """The counts over all draws of m told copies."""
    counts = [1] + [0] * n
    for step in range(m):
        counts = [count_with_one_more(n, counts, k) for k in range(n + 1)]
    return counts


def counts_one_earlier(n, counts):
    """The counts over runs that are longer by a generation at the beginning."""
    earlier = [0] * (n + 1)
    for m in range(n + 1):
        if counts[m] > 0:
            # The told copies come of none of the other n - m, so whatever these draw makes no difference.
            free_draws = power(n, n - m)
            parents = count_parents(n, m)
            for k in range(n + 1):
                earlier[k] += counts[m] * parents[k] * free_draws
    return earlier


def count_merge(n, m, t):
    """The counts over all runs of t generations, for m told copies at the end."""
    counts = [0] * (n + 1)
    counts[m] = 1
    for step in range(t):
        counts = counts_one_earlier(n, counts)
    return counts
