"""The calls 15 and 16: takes, chances."""

import math
import unittest
from fractions import Fraction

from asking import FAR_NUMBERS, asked_of, ask, chances, found, last, now, takes, turn

WEIGHTS = [(1, 1), (5, 5), (9, 9), (2, 1), (1, 2), (9, 8), (8, 9), (9, 1), (1, 9), (6, 4), (4, 6), (9, 3)]


def next_chances(n, i, a, b):
    """The chance of each number of copies behind one step, by going through both draws, copy by copy."""
    weight = [a] * i + [b] * (n - i)
    due = [Fraction(0)] * (n + 1)
    for drawn in range(n):
        for replaced in range(n):
            more = (1 if drawn < i else 0) - (1 if replaced < i else 0)
            due[i + more] += Fraction(weight[drawn], sum(weight)) * Fraction(1, n)
    return due


def solved(rows):
    """The unknowns of as many equations, each a row of factors and then the right side."""
    size = len(rows)
    for place in range(size):
        pivot = next(at for at in range(place, size) if rows[at][place] != 0)
        rows[place], rows[pivot] = rows[pivot], rows[place]
        rows[place] = [member / rows[place][place] for member in rows[place]]
        for at in range(size):
            if at != place and rows[at][place] != 0:
                factor = rows[at][place]
                rows[at] = [mine - factor * other for mine, other in zip(rows[at], rows[place])]
    return [row[size] for row in rows]


def chances_to_take_over(n, a, b):
    """h(0) to h(n): h(0) = 0, h(n) = 1, and each one between is the mean of h behind the next step."""
    rows = []
    for i in range(n + 1):
        if i == 0 or i == n:
            row = [Fraction(0)] * (n + 1)
            right = Fraction(1 if i == n else 0)
        else:
            row = [-chance for chance in next_chances(n, i, a, b)]
            right = Fraction(0)
        row[i] += 1
        rows.append(row + [right])
    return solved(rows)


class Takes(unittest.TestCase):
    def test_numbers_worked_out_by_hand(self):
        # Of two copies, one of each, the heavier one is drawn 2 of 3 times, and nothing else matters.
        self.assertEqual(asked_of(2, [takes(1, 2, 1), takes(1, 1, 2), takes(1, 3, 3)]), [[2, 3], [1, 3], [1, 2]])
        # Of three: (1 - 1/2) / (1 - 1/8), and (1 - 1/4) / (1 - 1/8).
        self.assertEqual(asked_of(3, [takes(1, 2, 1), takes(2, 2, 1)]), [[4, 7], [6, 7]])

    def test_against_the_one_step_chances(self):
        for n in range(1, 16):
            for a, b in WEIGHTS:
                told = asked_of(n, [takes(i, a, b) for i in range(n + 1)])
                due = [[chance.numerator, chance.denominator] for chance in chances_to_take_over(n, a, b)]
                self.assertEqual(told, due, (n, a, b))

    def test_lowest_terms_of_each_n_i_and_weights(self):
        for n in range(1, 16):
            for a in range(1, 10):
                for b in range(1, 10):
                    for i, told in enumerate(asked_of(n, [takes(i, a, b) for i in range(n + 1)])):
                        self.assertEqual(len(told), 2)
                        self.assertEqual(math.gcd(told[0], told[1]), 1, (n, i, a, b))
                        self.assertTrue(0 <= told[0] <= told[1], (n, i, a, b))

    def test_none_and_all_of_the_copies(self):
        for n in range(1, 16):
            for a, b in WEIGHTS:
                self.assertEqual(asked_of(n, [takes(0, a, b), takes(n, a, b)]), [[0, 1], [1, 1]], (n, a, b))

    def test_one_copy(self):
        self.assertEqual(asked_of(1, [takes(0, 9, 1), takes(1, 1, 9), takes(2, 1, 1)]), [[0, 1], [1, 1], [-3]])

    def test_like_weights(self):
        for n in range(1, 16):
            due = [[i // math.gcd(i, n), n // math.gcd(i, n)] for i in range(n + 1)]
            for weight in (1, 4, 9):
                self.assertEqual(asked_of(n, [takes(i, weight, weight) for i in range(n + 1)]), due, (n, weight))

    def test_weights_that_are_as_others(self):
        calls = [takes(i, 6, 4) for i in range(8)]
        self.assertEqual(asked_of(7, calls), asked_of(7, [takes(i, 3, 2) for i in range(8)]))

    def test_fifteen_copies_with_nearly_like_weights(self):
        for a, b in ((9, 8), (8, 9)):
            lower = a ** 15 - b ** 15
            for i in range(16):
                chance = Fraction(a ** (15 - i) * (a ** i - b ** i), lower)
                told = asked_of(15, [takes(i, a, b)])
                self.assertEqual(told, [[chance.numerator, chance.denominator]], (i, a, b))
        # 9^14 over 9^15 - 8^15, which have no common part.
        self.assertEqual(asked_of(15, [takes(1, 9, 8), takes(14, 9, 8)]),
                         [[22876792454961, 170706760005817], [9 * (9 ** 14 - 8 ** 14), 170706760005817]])
        self.assertEqual(asked_of(15, [takes(1, 8, 9), takes(14, 8, 9)]),
                         [[4398046511104, 170706760005817], [147829967550856, 170706760005817]])

    def test_the_others_take_over_else(self):
        for n in range(1, 16):
            for a, b in WEIGHTS:
                mine = asked_of(n, [takes(i, a, b) for i in range(n + 1)])
                others = asked_of(n, [takes(n - i, b, a) for i in range(n + 1)])
                for i in range(n + 1):
                    self.assertEqual(Fraction(*mine[i]) + Fraction(*others[i]), 1, (n, i, a, b))


class Chances(unittest.TestCase):
    def test_numbers_worked_out_by_hand(self):
        self.assertEqual(asked_of(5, [chances(2, 3, 4)]), [[18, 24, 90]])
        self.assertEqual(asked_of(15, [chances(7, 9, 1), chances(8, 1, 9)]), [[504, 56, 1065], [56, 504, 1065]])

    def test_as_told_for_each_n_i_and_weights(self):
        for n in range(1, 16):
            for a in range(1, 10):
                for b in range(1, 10):
                    due = [[a * i * (n - i), b * (n - i) * i, n * (a * i + b * (n - i))] for i in range(n + 1)]
                    self.assertEqual(asked_of(n, [chances(i, a, b) for i in range(n + 1)]), due, (n, a, b))

    def test_against_both_draws(self):
        for n in range(1, 16):
            for a, b in WEIGHTS:
                told = asked_of(n, [chances(i, a, b) for i in range(n + 1)])
                for i in range(1, n):
                    due = next_chances(n, i, a, b)
                    self.assertEqual(Fraction(told[i][0], told[i][2]), due[i + 1], (n, i, a, b))
                    self.assertEqual(Fraction(told[i][1], told[i][2]), due[i - 1], (n, i, a, b))

    def test_none_and_all_of_the_copies(self):
        self.assertEqual(asked_of(4, [chances(0, 3, 5), chances(4, 3, 5)]), [[0, 0, 80], [0, 0, 48]])
        self.assertEqual(asked_of(1, [chances(0, 3, 5), chances(1, 3, 5)]), [[0, 0, 5], [0, 0, 3]])

    def test_not_in_lowest_terms(self):
        self.assertEqual(asked_of(4, [chances(2, 2, 2)]), [[8, 8, 32]])


class Both(unittest.TestCase):
    def test_the_edges_of_i(self):
        for call in (takes, chances):
            for i in FAR_NUMBERS + [6]:
                self.assertEqual(asked_of(5, [call(i, 1, 1), call(i, 9, 9), call(i, 0, 10)]), [[-3]] * 3, (call, i))

    def test_the_edges_of_the_weights(self):
        self.assertEqual(asked_of(2, [takes(1, 1, 9), takes(1, 9, 1)]), [[1, 10], [9, 10]])
        self.assertEqual(asked_of(2, [chances(1, 1, 9), chances(1, 9, 1)]), [[1, 9, 20], [9, 1, 20]])
        for call in (takes, chances):
            for far in FAR_NUMBERS + [0, 10]:
                for i in range(3):
                    calls = [call(i, far, 1), call(i, 1, far), call(i, far, far)]
                    self.assertEqual(asked_of(2, calls), [[-3]] * 3, (call, far, i))

    def test_neither_draws_nor_kinds_matter(self):
        for call in (takes(1, 3, 2), chances(1, 3, 2)):
            due = last(found([1, 2, 3]), call)
            self.assertEqual(last(found([8, 8, 8]), call), due)
            self.assertEqual(last(found([1, 2, 3]), turn([1, 1, 1]), call), due)

    def test_change_nothing(self):
        told = ask(found([4, 5]), turn([1, 0]), now(), takes(1, 2, 3), chances(1, 2, 3), takes(3, 1, 1), now())
        self.assertEqual(told[2:], [[1, 2, 5, 4], [2, 5], [2, 3, 10], [-3], [1, 2, 5, 4]])


if __name__ == "__main__":
    unittest.main()
