"""The calls 9, 10 and 13: ways, first, unlike."""

import math
import unittest

from asking import FAR_NUMBERS, ask, asked_of, every, first, found, last, now, numbers_of, turn, unlike, ways
from everyrun import MOST_RUNS, SMALL, amount_of_first, lengths, runs_of


class Ways(unittest.TestCase):
    def test_numbers_worked_out_by_hand(self):
        # Of two copies, one comes of copy 0 and one of copy 1 by the rows 0 1 and 1 0, both come of copy 0 by 0 0.
        self.assertEqual(numbers_of(2, [ways(1, 0, 1), ways(1, 1, 1), ways(1, 2, 1)]), [1, 2, 1])
        # In two generations: 1 * 4 + 2 * 1, 2 * 2, and 2 * 1 + 1 * 4.
        self.assertEqual(numbers_of(2, [ways(1, 0, 2), ways(1, 1, 2), ways(1, 2, 2)]), [6, 4, 6])
        # Of three copies, by the eight cases of who comes of the first two, each with 2 draws or 1.
        self.assertEqual(numbers_of(3, [ways(2, j, 1) for j in range(4)]), [1, 6, 12, 8])

    def test_against_every_run(self):
        for n, t in SMALL:
            for i in range(n + 1):
                due = [0] * (n + 1)
                for run in runs_of(n, t):
                    due[amount_of_first(run, n, i)] += 1
                self.assertEqual(numbers_of(n, [ways(i, j, t) for j in range(n + 1)]), due, (n, t, i))

    def test_no_generations(self):
        for n in range(1, 16):
            for i in range(n + 1):
                due = [1 if i == j else 0 for j in range(n + 1)]
                self.assertEqual(numbers_of(n, [ways(i, j, 0) for j in range(n + 1)]), due, (n, i))

    def test_fifteen_copies_and_one_generation(self):
        for i in range(16):
            due = [math.comb(15, j) * i ** j * (15 - i) ** (15 - j) for j in range(16)]
            self.assertEqual(numbers_of(15, [ways(i, j, 1) for j in range(16)]), due, i)

    def test_one_copy_and_twenty_generations(self):
        self.assertEqual(numbers_of(1, [ways(0, 0, 20), ways(0, 1, 20), ways(1, 0, 20), ways(1, 1, 20)]), [1, 0, 0, 1])

    def test_two_copies_and_twenty_generations(self):
        # One of each is left by 2 of 4 rows in each generation; else one of the two has taken over, as often each.
        mixed = 2 ** 20
        taken = (4 ** 20 - mixed) // 2
        self.assertEqual(numbers_of(2, [ways(1, j, 20) for j in range(3)]), [taken, mixed, taken])
        self.assertEqual(numbers_of(2, [ways(0, j, 20) for j in range(3)]), [4 ** 20, 0, 0])
        self.assertEqual(numbers_of(2, [ways(2, j, 20) for j in range(3)]), [0, 0, 4 ** 20])

    def test_none_and_all_of_the_copies(self):
        for n in range(1, 16):
            for t in lengths(n):
                runs = n ** (n * t)
                self.assertEqual(numbers_of(n, [ways(0, j, t) for j in range(n + 1)]), [runs] + [0] * n, (n, t))
                self.assertEqual(numbers_of(n, [ways(n, j, t) for j in range(n + 1)]), [0] * n + [runs], (n, t))

    def test_the_edges_of_i_j_and_t(self):
        self.assertEqual(asked_of(3, [ways(0, 0, 0), ways(3, 3, 0), ways(0, 3, 12), ways(3, 3, 12)]),
                         [[1], [1], [0], [27 ** 12]])
        for far in FAR_NUMBERS + [4]:
            self.assertEqual(asked_of(3, [ways(far, 1, 1), ways(1, far, 1), ways(far, far, 1)]), [[-3]] * 3, far)
        for t in FAR_NUMBERS + [21]:
            self.assertEqual(asked_of(2, [ways(1, 1, t), ways(0, 2, t)]), [[-3]] * 2, t)

    def test_more_than_the_most_runs(self):
        self.assertEqual(asked_of(3, [ways(1, 1, 13), ways(0, 3, 13)]), [[-5], [-5]])
        self.assertEqual(asked_of(15, [ways(0, 0, 2), ways(0, 15, 20)]), [[-5], [-5]])
        self.assertEqual(asked_of(15, [ways(16, 0, 2), ways(0, 16, 2), ways(-1, 0, 20), ways(0, 0, 21)]), [[-3]] * 4)


class First(unittest.TestCase):
    def test_numbers_worked_out_by_hand(self):
        # Both copies come of copy 0 by one row of four; or first by two mixed rows, and then by one.
        self.assertEqual(numbers_of(2, [first(1, 0), first(1, 1), first(1, 2), first(1, 3)]), [0, 1, 2, 4])
        self.assertEqual(numbers_of(3, [first(2, 1), first(1, 1)]), [8, 1])

    def test_against_every_run(self):
        for n, t in SMALL:
            for i in range(n + 1):
                due = 0
                for run in runs_of(n, t):
                    sooner = [amount_of_first(run[:length], n, i) == n for length in range(t)]
                    if amount_of_first(run, n, i) == n and not any(sooner):
                        due += 1
                self.assertEqual(numbers_of(n, [first(i, t)]), [due], (n, t, i))

    def test_none_of_the_copies(self):
        for n in range(1, 16):
            told = numbers_of(n, [first(0, t) for t in lengths(n)])
            self.assertEqual(told, [0] * len(told), n)

    def test_all_of_the_copies(self):
        for n in range(1, 16):
            told = numbers_of(n, [first(n, t) for t in lengths(n)])
            self.assertEqual(told, [1] + [0] * (len(told) - 1), n)

    def test_no_generations(self):
        for n in range(1, 16):
            self.assertEqual(numbers_of(n, [first(i, 0) for i in range(n + 1)]), [0] * n + [1], n)

    def test_fifteen_copies_and_one_generation(self):
        self.assertEqual(numbers_of(15, [first(i, 1) for i in range(16)]), [i ** 15 for i in range(15)] + [0])

    def test_one_copy_and_twenty_generations(self):
        self.assertEqual(numbers_of(1, [first(0, 20), first(1, 20), first(1, 0)]), [0, 0, 1])

    def test_two_copies_and_twenty_generations(self):
        self.assertEqual(numbers_of(2, [first(i, 20) for i in range(3)]), [0, 2 ** 19, 0])

    def test_once_all_come_of_them_it_stays_so(self):
        # All do at the end where they do for the first time at t, or some generations sooner and then whatever comes.
        for n in range(1, 16):
            row = n ** n
            for t in lengths(n):
                for i in range(n + 1):
                    told = numbers_of(n, [first(i, sooner) for sooner in range(t + 1)] + [ways(i, n, t)])
                    due = sum(told[sooner] * row ** (t - sooner) for sooner in range(t + 1))
                    self.assertEqual(told[-1], due, (n, t, i))

    def test_the_edges_of_i_and_t(self):
        self.assertEqual(asked_of(3, [first(0, 0), first(3, 0), first(3, 12), first(0, 12)]), [[0], [1], [0], [0]])
        for far in FAR_NUMBERS + [4]:
            self.assertEqual(asked_of(3, [first(far, 0), first(far, 1)]), [[-3]] * 2, far)
        for t in FAR_NUMBERS + [21]:
            self.assertEqual(asked_of(2, [first(0, t), first(1, t), first(2, t)]), [[-3]] * 3, t)

    def test_more_than_the_most_runs(self):
        self.assertEqual(asked_of(3, [first(i, 13) for i in range(4)]), [[-5]] * 4)
        self.assertEqual(asked_of(15, [first(0, 2), first(15, 20)]), [[-5]] * 2)
        self.assertEqual(asked_of(15, [first(16, 2), first(-1, 20), first(0, 21)]), [[-3]] * 3)


class Unlike(unittest.TestCase):
    def test_numbers_worked_out_by_hand(self):
        # Two of the four rows leave one of each, and 1 * 1 is told of each of them.
        self.assertEqual(numbers_of(2, [unlike(1, 0), unlike(1, 1), unlike(1, 2)]), [1, 2, 4])
        # Of three copies: 6 rows with 1 * 2 and 12 with 2 * 1.
        self.assertEqual(numbers_of(3, [unlike(2, 0), unlike(2, 1)]), [2, 36])

    def test_against_every_run(self):
        for n, t in SMALL:
            for i in range(n + 1):
                due = 0
                for run in runs_of(n, t):
                    j = amount_of_first(run, n, i)
                    due += j * (n - j)
                self.assertEqual(numbers_of(n, [unlike(i, t)]), [due], (n, t, i))

    def test_none_and_all_of_the_copies(self):
        for n in range(1, 16):
            for t in lengths(n):
                self.assertEqual(numbers_of(n, [unlike(0, t), unlike(n, t)]), [0, 0], (n, t))

    def test_no_generations(self):
        for n in range(1, 16):
            told = numbers_of(n, [unlike(i, 0) for i in range(n + 1)])
            self.assertEqual(told, [i * (n - i) for i in range(n + 1)], n)

    def test_one_copy_and_twenty_generations(self):
        self.assertEqual(numbers_of(1, [unlike(0, 20), unlike(1, 20)]), [0, 0])

    def test_two_copies_and_twenty_generations(self):
        self.assertEqual(numbers_of(2, [unlike(i, 20) for i in range(3)]), [0, 2 ** 20, 0])

    def test_a_sum_above_the_most_where_the_runs_are_not(self):
        self.assertEqual(asked_of(15, [every(1), unlike(0, 1), unlike(1, 1), unlike(7, 1), unlike(15, 1)]),
                         [[15 ** 15], [0], [-5], [-5], [0]])
        self.assertEqual(asked_of(3, [every(12), unlike(1, 12), unlike(2, 12)]),
                         [[27 ** 12], [2 * 18 ** 12], [2 * 18 ** 12]])

    def test_each_i_and_t_of_each_number_of_copies(self):
        sums = []
        for n in range(1, 16):
            for t in range(21):
                told = asked_of(n, [unlike(i, t) for i in range(n + 1)])
                for i in range(n + 1):
                    due = i * (n - i) * ((n - 1) * n ** (n - 1)) ** t
                    refused = n ** (n * t) > MOST_RUNS or due > MOST_RUNS
                    self.assertEqual(told[i], [-5] if refused else [due], (n, t, i))
                    sums.append(due)
        # No sum is the most itself, so that edge can't be asked.
        self.assertNotIn(MOST_RUNS, sums)

    def test_the_edges_of_i_and_t(self):
        for far in FAR_NUMBERS + [4]:
            self.assertEqual(asked_of(3, [unlike(far, 0), unlike(far, 1)]), [[-3]] * 2, far)
        for t in FAR_NUMBERS + [21]:
            self.assertEqual(asked_of(2, [unlike(0, t), unlike(1, t), unlike(2, t)]), [[-3]] * 3, t)

    def test_more_than_the_most_runs(self):
        # No copy is unlike the others, and still the runs are too many.
        self.assertEqual(asked_of(3, [unlike(0, 13), unlike(3, 13), unlike(1, 13)]), [[-5]] * 3)
        self.assertEqual(asked_of(15, [unlike(0, 2), unlike(0, 20)]), [[-5]] * 2)
        self.assertEqual(asked_of(15, [unlike(16, 1), unlike(16, 2), unlike(-1, 20), unlike(7, 21)]), [[-3]] * 4)


class NeitherDrawsNorKinds(unittest.TestCase):
    def test_matter(self):
        calls = [ways(1, 2, 2), first(1, 2), unlike(1, 2)]
        due = ask(found([1, 2, 3]), *calls)[1:]
        self.assertEqual(ask(found([7, 7, 7]), *calls)[1:], due)
        self.assertEqual(ask(found([1, 2, 3]), turn([2, 2, 2]), turn([0, 1, 1]), *calls)[3:], due)
        self.assertEqual(last(found([1, 2, 3]), *calls, now()), [0, 3, 1, 2, 3])


if __name__ == "__main__":
    unittest.main()
