"""The calls 11 and 12: merge, alike."""

import math
import unittest

from asking import FAR_NUMBERS, alike, ask, asked_of, found, last, merge, now, numbers_of, turn
from everyrun import MOST_RUNS, SMALL, ancestors, lengths, runs_of


def groupings(m, k):
    """In how many ways m told copies fall into k groups."""
    if m == 0 or k == 0:
        return 1 if m == k else 0
    return k * groupings(m - 1, k) + groupings(m - 1, k - 1)


class Merge(unittest.TestCase):
    def test_numbers_worked_out_by_hand(self):
        # Two of two copies come of one by the rows 0 0 and 1 1; in two generations by these, and by 2 * 2 behind.
        self.assertEqual(numbers_of(2, [merge(2, 1, 1), merge(2, 2, 1), merge(2, 1, 2), merge(2, 2, 2)]), [2, 2, 12, 4])
        # Three of three come of one by 3 rows, of three by 6, and of two by the other 18.
        self.assertEqual(numbers_of(3, [merge(3, 1, 1), merge(3, 2, 1), merge(3, 3, 1)]), [3, 18, 6])
        # The draw of the copy that isn't told is free.
        self.assertEqual(numbers_of(3, [merge(2, 1, 1), merge(2, 2, 1), merge(1, 1, 1)]), [9, 18, 27])

    def test_against_every_run(self):
        for n, t in SMALL:
            for m in range(1, n + 1):
                due = [0] * (n + 1)
                for run in runs_of(n, t):
                    due[len(set(ancestors(run, n)[:m]))] += 1
                self.assertEqual(numbers_of(n, [merge(m, k, t) for k in range(1, n + 1)]), due[1:], (n, t, m))

    def test_of_more_copies_than_are_told(self):
        for n in range(1, 16):
            for t in lengths(n):
                calls = [merge(m, k, t) for m in range(1, n + 1) for k in range(m + 1, n + 1)]
                self.assertEqual(numbers_of(n, calls), [0] * len(calls), (n, t))

    def test_no_generations(self):
        for n in range(1, 16):
            pairs = [(m, k) for m in range(1, n + 1) for k in range(1, n + 1)]
            due = [1 if m == k else 0 for m, k in pairs]
            self.assertEqual(numbers_of(n, [merge(m, k, 0) for m, k in pairs]), due, n)

    def test_fifteen_copies_and_one_generation(self):
        for m in range(1, 16):
            due = [groupings(m, k) * math.perm(15, k) * 15 ** (15 - m) for k in range(1, 16)]
            self.assertEqual(numbers_of(15, [merge(m, k, 1) for k in range(1, 16)]), due, m)

    def test_one_copy_and_twenty_generations(self):
        self.assertEqual(numbers_of(1, [merge(1, 1, 20)]), [1])

    def test_two_copies_and_twenty_generations(self):
        told = numbers_of(2, [merge(2, 1, 20), merge(2, 2, 20), merge(1, 1, 20), merge(1, 2, 20)])
        self.assertEqual(told, [4 ** 20 - 2 ** 20, 2 ** 20, 4 ** 20, 0])

    def test_the_edges_of_m_k_and_t(self):
        self.assertEqual(asked_of(3, [merge(1, 1, 12), merge(3, 3, 12), merge(1, 3, 0), merge(3, 3, 0)]),
                         [[27 ** 12], [6 ** 12], [0], [1]])
        for far in FAR_NUMBERS + [0, 4]:
            self.assertEqual(asked_of(3, [merge(far, 1, 1), merge(1, far, 1), merge(far, far, 1)]), [[-3]] * 3, far)
        for t in FAR_NUMBERS + [21]:
            self.assertEqual(asked_of(2, [merge(1, 1, t), merge(2, 1, t), merge(1, 2, t)]), [[-3]] * 3, t)

    def test_more_than_the_most_runs(self):
        self.assertEqual(asked_of(3, [merge(3, 1, 13), merge(1, 3, 13)]), [[-5]] * 2)
        self.assertEqual(asked_of(15, [merge(1, 1, 2), merge(15, 15, 20)]), [[-5]] * 2)
        self.assertEqual(asked_of(15, [merge(16, 1, 2), merge(1, 16, 2), merge(0, 1, 20), merge(1, 0, 20),
                                       merge(1, 1, 21)]), [[-3]] * 5)


class Alike(unittest.TestCase):
    def test_numbers_worked_out_by_hand(self):
        self.assertEqual(numbers_of(2, [alike(0), alike(1), alike(2), alike(3)]), [0, 2, 12, 56])
        self.assertEqual(numbers_of(3, [alike(0), alike(1)]), [0, 9])

    def test_against_every_run(self):
        for n, t in SMALL:
            if n == 1:
                continue
            due = 0
            for run in runs_of(n, t):
                old = ancestors(run, n)
                if old[0] == old[1]:
                    due += 1
            self.assertEqual(numbers_of(n, [alike(t)]), [due], (n, t))

    def test_each_t_of_each_number_of_copies(self):
        # Two copies miss each other in one generation by n - 1 of n draws of the second one.
        for n in range(2, 16):
            told = asked_of(n, [alike(t) for t in range(21)])
            for t in range(21):
                runs = n ** (n * t)
                due = runs - ((n - 1) * n ** (n - 1)) ** t
                self.assertEqual(told[t], [due] if runs <= MOST_RUNS else [-5], (n, t))

    def test_two_copies_and_twenty_generations(self):
        self.assertEqual(numbers_of(2, [alike(20)]), [4 ** 20 - 2 ** 20])

    def test_fifteen_copies(self):
        self.assertEqual(asked_of(15, [alike(0), alike(1), alike(2)]), [[0], [15 ** 14], [-5]])

    def test_one_copy(self):
        calls = [alike(t) for t in FAR_NUMBERS + [0, 1, 20, 21]]
        self.assertEqual(asked_of(1, calls), [[-3]] * len(calls))

    def test_the_edges_of_t(self):
        self.assertEqual(asked_of(2, [alike(0), alike(20), alike(21)]), [[0], [4 ** 20 - 2 ** 20], [-3]])
        for t in FAR_NUMBERS:
            self.assertEqual(asked_of(2, [alike(t)]), [[-3]], t)

    def test_more_than_the_most_runs(self):
        self.assertEqual(asked_of(3, [alike(12), alike(13), alike(20), alike(21), alike(-1)]),
                         [[27 ** 12 - 18 ** 12], [-5], [-5], [-3], [-3]])


class NeitherDrawsNorKinds(unittest.TestCase):
    def test_matter(self):
        calls = [merge(3, 2, 2), merge(2, 1, 2), alike(2)]
        due = ask(found([1, 2, 3]), *calls)[1:]
        self.assertEqual(ask(found([7, 7, 7]), *calls)[1:], due)
        self.assertEqual(ask(found([1, 2, 3]), turn([2, 2, 2]), turn([0, 1, 1]), *calls)[3:], due)
        self.assertEqual(last(found([1, 2, 3]), *calls, now()), [0, 3, 1, 2, 3])


if __name__ == "__main__":
    unittest.main()
