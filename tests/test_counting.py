"""The call 8: all."""

import itertools
import unittest

from asking import FAR_NUMBERS, ask, every, found, last, now, turn

MOST_RUNS = 10 ** 18


class All(unittest.TestCase):
    def test_numbers_worked_out_by_hand(self):
        self.assertEqual(last(found([1, 2]), every(3)), [64])
        self.assertEqual(last(found([1, 2, 3]), every(2)), [729])
        self.assertEqual(last(found([1] * 4), every(1)), [256])
        self.assertEqual(last(found([1] * 15), every(1)), [437893890380859375])

    def test_as_many_as_there_are_runs(self):
        for n, t in ((1, 0), (1, 3), (2, 1), (2, 2), (2, 3), (3, 1), (3, 2), (4, 1)):
            rows = list(itertools.product(range(n), repeat=n))
            runs = sum(1 for run in itertools.product(rows, repeat=t))
            self.assertEqual(last(found([0] * n), every(t)), [runs], (n, t))

    def test_one_run_of_no_generations(self):
        for n in range(1, 16):
            self.assertEqual(last(found([3] * n), every(0)), [1], n)

    def test_the_edges_of_t(self):
        self.assertEqual(ask(found([5]), every(20), every(21)), [[0], [1], [-3]])
        self.assertEqual(ask(found([5, 6]), every(20), every(21)), [[0], [1099511627776], [-3]])
        for t in FAR_NUMBERS:
            self.assertEqual(last(found([5, 6]), every(t)), [-3], t)

    def test_more_than_the_most_runs(self):
        # 27^12 and 256^7 are the last that are told, 27^13 and 256^8 are too many.
        self.assertEqual(ask(found([1] * 3), every(12), every(13)), [[0], [150094635296999121], [-5]])
        self.assertEqual(ask(found([1] * 4), every(7), every(8)), [[0], [72057594037927936], [-5]])
        self.assertEqual(ask(found([1] * 10), every(1), every(2)), [[0], [10000000000], [-5]])
        self.assertEqual(ask(found([1] * 15), every(1), every(2)), [[0], [437893890380859375], [-5]])

    def test_each_number_of_copies_and_generations(self):
        for n in range(1, 16):
            told = ask(found([0] * n), *[every(t) for t in range(21)])[1:]
            for t in range(21):
                runs = n ** (n * t)
                # No number of runs is the most itself, so that edge can't be asked.
                self.assertNotEqual(runs, MOST_RUNS)
                self.assertEqual(told[t], [runs] if runs < MOST_RUNS else [-5], (n, t))

    def test_a_wrong_t_is_told_ahead_of_too_many_runs(self):
        self.assertEqual(ask(found([1] * 15), every(20), every(21), every(-1)), [[0], [-5], [-3], [-3]])

    def test_before_found(self):
        for t in FAR_NUMBERS + [0, 20, 21]:
            self.assertEqual(ask(every(t)), [[-1]], t)

    def test_neither_draws_nor_kinds_matter(self):
        told = ask(found([1, 1]), every(2), turn([0, 0]), every(2), found([1, 9]), every(2))
        self.assertEqual(told, [[0], [16], [1], [16], [0], [16]])

    def test_changes_nothing(self):
        told = ask(found([1, 2, 3]), turn([2, 1, 1]), now(), every(1), every(13), every(21), now())
        self.assertEqual(told[2:], [[1, 3, 3, 2, 2], [27], [-5], [-3], [1, 3, 3, 2, 2]])


if __name__ == "__main__":
    unittest.main()
