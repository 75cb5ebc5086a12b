"""The call 14: toward."""

import collections
import math
import unittest

from asking import FAR_NUMBERS, ask, asked_of, found, last, now, numbers_of, toward, turn, ways
from everyrun import rows_of_draws


def amounts_of(length, n):
    """Each list of this length, of numbers from 0 on, with the sum n."""
    if length == 1:
        return [[n]]
    return [[one] + rest for one in range(n + 1) for rest in amounts_of(length - 1, n - one)]


def amounts_by_row(n, c):
    """By each list of numbers of copies of the kinds: for how many rows of draws there come so many."""
    kinds = [kind for kind in range(len(c)) for copy in range(c[kind])]
    due = collections.Counter()
    for row in rows_of_draws(n):
        new_kinds = [kinds[parent] for parent in row]
        due[tuple(new_kinds.count(kind) for kind in range(len(c)))] += 1
    return due


class Toward(unittest.TestCase):
    def test_numbers_worked_out_by_hand(self):
        self.assertEqual(numbers_of(3, [toward([1, 1, 1], [1, 1, 1]), toward([1, 1, 1], [3, 0, 0]),
                                        toward([2, 1], [2, 1]), toward([2, 1], [3, 0])]), [6, 1, 12, 8])

    def test_against_every_row_of_draws(self):
        for n in range(1, 5):
            for length in range(1, 5):
                for c in amounts_of(length, n):
                    due = amounts_by_row(n, c)
                    lists = amounts_of(length, n)
                    told = numbers_of(n, [toward(c, d) for d in lists])
                    self.assertEqual(told, [due[tuple(d)] for d in lists], (n, c))

    def test_a_kind_with_no_copies(self):
        self.assertEqual(numbers_of(3, [toward([0, 3], [0, 3]), toward([0, 3], [1, 2]), toward([3, 0], [0, 3]),
                                        toward([2, 0, 1], [2, 0, 1]), toward([2, 0, 1], [2, 1, 0])]),
                         [27, 0, 0, 12, 0])

    def test_a_list_of_one(self):
        for n in range(1, 16):
            self.assertEqual(numbers_of(n, [toward([n], [n])]), [n ** n], n)

    def test_lists_of_ten(self):
        ones = [1] * 10
        self.assertEqual(numbers_of(10, [toward(ones, ones), toward(ones, [10] + [0] * 9),
                                         toward([10] + [0] * 9, [10] + [0] * 9)]), [math.factorial(10), 1, 10 ** 10])
        c = [3, 0, 2, 1, 1, 1, 2, 2, 1, 2]
        d = [1, 0, 4, 0, 2, 1, 3, 1, 0, 3]
        due = math.factorial(15)
        for old, new in zip(c, d):
            due = due // math.factorial(new) * old ** new
        self.assertEqual(numbers_of(15, [toward(c, d)]), [due])

    def test_fifteen_copies_of_one_kind_among_ten(self):
        for kind in range(10):
            c = [0] * 10
            c[kind] = 15
            self.assertEqual(numbers_of(15, [toward(c, c)]), [15 ** 15], kind)

    def test_two_kinds_are_told_by_ways(self):
        for n in range(1, 16):
            for i in range(n + 1):
                told = numbers_of(n, [toward([i, n - i], [j, n - j]) for j in range(n + 1)])
                self.assertEqual(told, numbers_of(n, [ways(i, j, 1) for j in range(n + 1)]), (n, i))

    def test_neither_draws_nor_kinds_matter(self):
        due = [12]
        self.assertEqual(last(found([1, 2, 3]), toward([2, 1], [2, 1])), due)
        self.assertEqual(last(found([1, 1, 1]), toward([2, 1], [2, 1])), due)
        self.assertEqual(last(found([1, 2, 3]), turn([0, 0, 0]), toward([2, 1], [2, 1])), due)


class Refused(unittest.TestCase):
    def assert_wrong(self, n, c, d):
        kinds = [4] * n
        told = ask(found(kinds), toward(c, d), toward(d, c), now())
        self.assertEqual(told, [[0], [-4], [-4], [0, n] + kinds], (n, c, d))

    def test_lists_of_unlike_lengths(self):
        self.assert_wrong(3, [3], [2, 1])
        self.assert_wrong(3, [3, 0], [3])
        self.assert_wrong(3, [1, 1, 1], [1, 2])
        self.assert_wrong(10, [1] * 10, [10] + [0] * 8)

    def test_empty_lists(self):
        self.assert_wrong(3, [], [])
        self.assert_wrong(3, [], [3])
        self.assert_wrong(1, [], [1])

    def test_lists_of_eleven_and_more(self):
        self.assert_wrong(11, [1] * 11, [1] * 11)
        self.assert_wrong(11, [11] + [0] * 10, [11] + [0] * 10)
        self.assert_wrong(11, [11] + [0] * 10, [11] + [0] * 9)
        self.assert_wrong(15, [15] + [0] * 29, [15] + [0] * 29)

    def test_members_out_of_range(self):
        for far in FAR_NUMBERS + [16]:
            self.assert_wrong(3, [far, 1], [2, 1])
            self.assert_wrong(3, [1, far], [2, 1])
            self.assert_wrong(3, [far], [far])

    def test_members_out_of_range_though_the_sum_is_right(self):
        self.assert_wrong(15, [16, -1], [15, 0])
        self.assert_wrong(15, [-1, 16], [-1, 16])
        self.assert_wrong(3, [-1, 4], [1, 2])
        self.assert_wrong(3, [2, -1, 2], [1, 1, 1])
        self.assert_wrong(15, [16, -1, 0], [5, 5, 5])

    def test_another_sum(self):
        self.assert_wrong(3, [2], [3])
        self.assert_wrong(3, [4], [3])
        self.assert_wrong(3, [2, 2], [2, 1])
        self.assert_wrong(3, [1, 1], [2, 1])
        self.assert_wrong(3, [2, 2], [2, 2])
        self.assert_wrong(3, [0, 0], [0, 0])
        self.assert_wrong(14, [15], [14])
        self.assert_wrong(15, [15, 15], [15, 0])

    def test_before_found(self):
        calls = [toward([1], [1]), toward([], []), toward([-1], [16]), toward([1], [0, 1]), toward([0] * 30, [0] * 30)]
        self.assertEqual(ask(*calls), [[-1]] * len(calls))

    def test_behind_a_refused_one(self):
        self.assertEqual(asked_of(2, [toward([], []), toward([1, 1], [1, 1]), toward([9] * 30, []), toward([2], [2])]),
                         [[-4], [2], [-4], [4]])


if __name__ == "__main__":
    unittest.main()
