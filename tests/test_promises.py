"""The document's promises 1 to 3, over every number of copies and every length of runs that is told."""

import itertools
import math
import unittest
from fractions import Fraction

from asking import alike, asked_of, chances, every, merge, numbers_of, takes, unlike, ways
from everyrun import SMALL, ancestors, lengths, runs_of

EVERY_N_AND_T = [(n, t) for n in range(1, 16) for t in lengths(n)]


def runs_told_forward(n, m, counts):
    """For how many runs m told copies at the end all come of the first i, by ways: the counts by j.

    Of the groups of m copies at the end it's those among the j. No group is among them in more runs than another, but
    in the run of no generations: there it's the mean over all groups.
    """
    return sum(Fraction(count * math.comb(j, m), math.comb(n, m)) for j, count in enumerate(counts))


def runs_told_backward(n, i, counts):
    """The same, by merge: the counts by k. Of the groups of k copies at the beginning it's those among the first i."""
    return sum(Fraction(count * math.comb(i, k), math.comb(n, k)) for k, count in enumerate(counts))


def every_way(n, i, t):
    return numbers_of(n, [ways(i, j, t) for j in range(n + 1)])


def every_merge(n, m, t):
    """By k from 0 on; of no copy at all there comes none."""
    return [0] + numbers_of(n, [merge(m, k, t) for k in range(1, n + 1)])


class ExactNumbers(unittest.TestCase):
    """Promise 1."""

    def test_ways_add_up_to_all(self):
        for n, t in EVERY_N_AND_T:
            runs = numbers_of(n, [every(t)])[0]
            for i in range(n + 1):
                self.assertEqual(sum(every_way(n, i, t)), runs, (n, t, i))

    def test_the_mean_never_changes(self):
        for n, t in EVERY_N_AND_T:
            runs = numbers_of(n, [every(t)])[0]
            for i in range(n + 1):
                copies = sum(j * count for j, count in enumerate(every_way(n, i, t)))
                self.assertEqual(copies, i * runs, (n, t, i))

    def test_unlikeness_falls_by_one_part_in_n(self):
        steps = 0
        for n, t in EVERY_N_AND_T:
            for i in range(n + 1):
                told = asked_of(n, [unlike(i, t), unlike(i, t + 1)])
                if t + 1 in lengths(n) and [-5] not in told:
                    self.assertEqual(told[1][0] * n, told[0][0] * (n - 1) * n ** n, (n, t, i))
                    steps += 1
        self.assertGreater(steps, 200)

    def test_merge_adds_up_to_all(self):
        for n, t in EVERY_N_AND_T:
            runs = numbers_of(n, [every(t)])[0]
            for m in range(1, n + 1):
                self.assertEqual(sum(every_merge(n, m, t)), runs, (n, t, m))


class ForwardAndBackward(unittest.TestCase):
    """Promise 2."""

    def test_alike_is_merge_of_two_to_one(self):
        for n, t in EVERY_N_AND_T:
            if n > 1:
                told = numbers_of(n, [alike(t), merge(2, 1, t)])
                self.assertEqual(told[0], told[1], (n, t))

    def test_unlike_is_told_by_alike(self):
        # Two copies that don't come of one come of any two, as often each.
        for n, t in EVERY_N_AND_T:
            if n > 1:
                told = numbers_of(n, [every(t), alike(t)])
                for i in range(n + 1):
                    pairs = sum(j * (n - j) * count for j, count in enumerate(every_way(n, i, t)))
                    self.assertEqual(pairs, i * (n - i) * (told[0] - told[1]), (n, t, i))

    def test_told_copies_that_all_come_of_the_first(self):
        for n, t in EVERY_N_AND_T:
            forward = [every_way(n, i, t) for i in range(n + 1)]
            for m in range(1, n + 1):
                backward = every_merge(n, m, t)
                for i in range(n + 1):
                    self.assertEqual(runs_told_forward(n, m, forward[i]), runs_told_backward(n, i, backward),
                                     (n, t, m, i))

    def test_told_copies_that_all_come_of_the_first_in_every_run(self):
        for n, t in SMALL:
            for m in range(1, n + 1):
                for i in range(n + 1):
                    told = [runs_told_forward(n, m, every_way(n, i, t)),
                            runs_told_backward(n, i, every_merge(n, m, t))]
                    groups = list(itertools.combinations(range(n), m))
                    due = [sum(1 for run in runs_of(n, t) if max(ancestors(run, n)[c] for c in group) < i)
                           for group in groups]
                    self.assertEqual(told, [Fraction(sum(due), len(groups))] * 2, (n, t, m, i))
                    if t > 0:
                        self.assertEqual(due, [told[0]] * len(groups), (n, t, m, i))


class TakingOver(unittest.TestCase):
    """Promise 3."""

    def test_told_by_a_copy_more_and_a_copy_less(self):
        for n in range(2, 16):
            for a in range(1, 10):
                for b in range(1, 10):
                    chance = [Fraction(*told) for told in asked_of(n, [takes(i, a, b) for i in range(n + 1)])]
                    steps = asked_of(n, [chances(i, a, b) for i in range(n + 1)])
                    for i in range(1, n):
                        more = Fraction(steps[i][0], steps[i][2])
                        less = Fraction(steps[i][1], steps[i][2])
                        mean = more * chance[i + 1] + less * chance[i - 1] + (1 - more - less) * chance[i]
                        self.assertEqual(chance[i], mean, (n, i, a, b))


if __name__ == "__main__":
    unittest.main()
