"""A kind that's heavier or lighter than the rest, one copy at a time."""

from genedrift.runs import power


def lowest_terms(top, bottom):
    """The same fraction, as its upper and its lower number in lowest terms."""
    divisor = bottom
    rest = top
    while rest > 0:
        remainder = divisor % rest
        divisor = rest
        rest = remainder
    return [top // divisor, bottom // divisor]


def chance_to_take_over(n, i, a, b):
    """The chance that i copies of the weight a take over from n - i of the weight b, in lowest terms."""
    # With whatever number of copies, one less is next b / a times as likely as one more. So what the chance gains
    # from k copies to k + 1 is b / a times what it gains from k - 1 to k; and from 0 to n it gains 1.
    gained = 0
    gained_by_all = 0
    for k in range(n):
        gain = power(b, k) * power(a, n - 1 - k)
        gained_by_all += gain
        if k < i:
            gained += gain
    return lowest_terms(gained, gained_by_all)


def step_chances(n, i, a, b):
    """The upper numbers of the chances of a copy more and a copy less, and the lower one of both."""
    others = n - i
    return [a * i * others, b * others * i, n * (a * i + b * others)]
