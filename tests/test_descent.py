"""The calls 5 to 7: back, common, lines."""

import itertools
import unittest

from asking import FAR_NUMBERS, ask, back, common, found, last, lines, now, turn, undo

# Five copies. What each copy of generation 3 comes of:
#   1 generation before, by its row:      4 4 1 1 0
#   2 before, by the row 3 2 2 0 1:       1 1 2 2 3
#   3 before, by the row 0 0 4 3 3:       0 0 4 4 3
STORY = [found([1, 2, 3, 4, 5]), turn([0, 0, 4, 3, 3]), turn([3, 2, 2, 0, 1]), turn([4, 4, 1, 1, 0])]


def told_of_story(*calls):
    return ask(*STORY, *calls)[4:]


class Back(unittest.TestCase):
    def test_each_copy_at_each_generation(self):
        due = [
            [0, 1, 2, 3, 4],
            [4, 4, 1, 1, 0],
            [1, 1, 2, 2, 3],
            [0, 0, 4, 4, 3],
        ]
        for t in range(4):
            told = told_of_story(*[back(t, c) for c in range(5)])
            self.assertEqual(told, [[c] for c in due[t]], t)

    def test_the_edges_of_t(self):
        self.assertEqual(told_of_story(back(0, 2), back(3, 2), back(4, 2)), [[2], [4], [-3]])
        self.assertEqual(ask(found([1, 2]), back(0, 1), back(1, 1)), [[0], [1], [-3]])
        for t in FAR_NUMBERS:
            self.assertEqual(told_of_story(back(t, 0)), [[-3]], t)

    def test_the_edges_of_c(self):
        self.assertEqual(told_of_story(back(1, 0), back(1, 4)), [[4], [0]])
        for c in FAR_NUMBERS + [5]:
            self.assertEqual(told_of_story(back(0, c), back(3, c), back(4, c)), [[-3], [-3], [-3]], c)

    def test_one_copy(self):
        self.assertEqual(ask(found([1]), turn([0]), back(1, 0), back(1, 1), back(2, 0))[2:], [[0], [-3], [-3]])

    def test_behind_an_undo(self):
        # Of generation 2: the rows 3 2 2 0 1, then 0 0 4 3 3.
        told = told_of_story(undo(), back(1, 0), back(2, 0), back(3, 0), back(2, 1))
        self.assertEqual(told, [[2], [3], [3], [-3], [4]])

    def test_a_hundred_generations_before(self):
        told = ask(found([1, 2, 3]), *[turn([1, 2, 0])] * 100, back(100, 0), back(99, 0), back(101, 0))
        self.assertEqual(told[-3:], [[1], [0], [-3]])

    def test_before_found(self):
        for t in FAR_NUMBERS + [0]:
            self.assertEqual(ask(back(t, 0), back(0, t)), [[-1], [-1]], t)

    def test_changes_nothing(self):
        self.assertEqual(told_of_story(now(), back(2, 1), back(9, 9), now()),
                         [[3, 5, 1, 1, 5, 5, 4], [1], [-3], [3, 5, 1, 1, 5, 5, 4]])


class Common(unittest.TestCase):
    def test_one_copy_is_one_at_once(self):
        self.assertEqual(told_of_story(*[common([c]) for c in range(5)]), [[1, 0, c] for c in range(5)])

    def test_the_same_copy_some_times(self):
        self.assertEqual(told_of_story(common([3, 3]), common([3] * 5)), [[1, 0, 3], [1, 0, 3]])

    def test_copies_that_meet_one_generation_before(self):
        self.assertEqual(told_of_story(common([0, 1]), common([3, 2]), common([1, 0, 1, 0, 0])),
                         [[1, 1, 4], [1, 1, 1], [1, 1, 4]])

    def test_copies_that_never_meet(self):
        self.assertEqual(told_of_story(common([0, 2]), common([0, 1, 2, 3, 4]), common([4, 4, 3])), [[0], [0], [0]])

    def test_copies_that_meet_later(self):
        # Copies 0 and 2 of generation 3 come of 1 and 2, these of 0 and 1, these both of 2; copy 1 comes of 0, 2, 0.
        calls = [found([1, 2, 3]), turn([2, 2, 0]), turn([2, 0, 1]), turn([1, 0, 2])]
        told = ask(*calls, common([0, 2]), common([2, 0, 2]), common([0, 1]), common([0, 1, 2]))
        self.assertEqual(told[4:], [[1, 3, 2], [1, 3, 2], [0], [0]])

    def test_the_least_t_is_told(self):
        calls = [found([1, 2]), turn([1, 1]), turn([0, 1]), turn([0, 0]), turn([1, 0])]
        # Copies 0 and 1 come of 1 and 0, then both of 0; that they are one further back too is not told.
        self.assertEqual(last(*calls, common([0, 1])), [1, 2, 0])

    def test_not_met_up_to_generation_0(self):
        self.assertEqual(ask(found([1, 1]), common([0, 1]), turn([1, 0]), common([0, 1]), common([1])),
                         [[0], [0], [1], [0], [1, 0, 1]])

    def test_met_in_generation_0_a_hundred_generations_before(self):
        swaps = [turn([1, 0])] * 99
        self.assertEqual(last(found([1, 2]), turn([1, 1]), *swaps, common([0, 1])), [1, 100, 1])

    def test_behind_an_undo(self):
        self.assertEqual(told_of_story(undo(), common([0, 1]), common([1, 2]), common([0, 4]), common([0, 3])),
                         [[2], [0], [1, 1, 2], [0], [0]])

    def test_the_edges_of_the_length(self):
        self.assertEqual(told_of_story(common([])), [[-4]])
        for length in (6, 15, 30):
            self.assertEqual(told_of_story(common([0] * length)), [[-4]], length)
        self.assertEqual(ask(found([1] * 15), common([14] * 15), common([14] * 16)), [[0], [1, 0, 14], [-4]])

    def test_the_edges_of_the_members(self):
        for member in FAR_NUMBERS + [5]:
            for copies in ([member], [0, member], [member, 0], [0, 0, 0, 0, member]):
                self.assertEqual(told_of_story(common(copies)), [[-4]], copies)

    def test_before_found(self):
        self.assertEqual(ask(common([]), common([0]), common([-1]), common([0] * 30)), [[-1]] * 4)

    def test_changes_nothing(self):
        before = [3, 5, 1, 1, 5, 5, 4]
        self.assertEqual(told_of_story(now(), common([0, 2]), now(), common([5]), now()),
                         [before, [0], before, [-4], before])


class Lines(unittest.TestCase):
    def test_each_generation(self):
        self.assertEqual(told_of_story(lines(0), lines(1), lines(2), lines(3)), [[5], [3], [3], [3]])

    def test_lines_that_meet_step_by_step(self):
        calls = [found([1, 2, 3, 4]), turn([2, 2, 0, 1]), turn([0, 1, 2, 2]), turn([0, 1, 2, 2])]
        # One generation before they come of 0 1 2 2, two before of 0 1 2 2, three before of 2 2 0 0.
        self.assertEqual(ask(*calls, lines(0), lines(1), lines(2), lines(3))[4:], [[4], [3], [3], [2]])

    def test_the_edges_of_t(self):
        self.assertEqual(told_of_story(lines(4)), [[-3]])
        self.assertEqual(ask(found([7, 7, 7]), lines(0), lines(1)), [[0], [3], [-3]])
        for t in FAR_NUMBERS:
            self.assertEqual(told_of_story(now(), lines(t), now()),
                             [[3, 5, 1, 1, 5, 5, 4], [-3], [3, 5, 1, 1, 5, 5, 4]], t)

    def test_one_and_fifteen_copies(self):
        self.assertEqual(ask(found([1]), turn([0]), lines(0), lines(1))[2:], [[1], [1]])
        self.assertEqual(ask(found([1] * 15), turn([14] * 15), lines(0), lines(1))[2:], [[15], [1]])

    def test_a_hundred_generations(self):
        told = ask(found([1, 2]), turn([1, 1]), *[turn([1, 0])] * 99, lines(99), lines(100), lines(101))
        self.assertEqual(told[-3:], [[2], [1], [-3]])

    def test_behind_an_undo(self):
        self.assertEqual(told_of_story(undo(), lines(1), lines(2), lines(3)), [[2], [4], [3], [-3]])

    def test_before_found(self):
        for t in FAR_NUMBERS + [0]:
            self.assertEqual(ask(lines(t)), [[-1]], t)


class EveryRun(unittest.TestCase):
    """Each run of two generations of three copies, against the document's own words."""

    @staticmethod
    def comes_of(rows, c, t):
        """A copy comes of itself 0 generations before, and then of the parent of the one before."""
        if t == 0:
            return c
        return rows[len(rows) - t][EveryRun.comes_of(rows, c, t - 1)]

    @staticmethod
    def meeting(rows, copies):
        for t in range(len(rows) + 1):
            old = {EveryRun.comes_of(rows, c, t) for c in copies}
            if len(old) == 1:
                return [1, t, old.pop()]
        return [0]

    def test_back_common_and_lines(self):
        groups = [list(group) for size in (1, 2, 3) for group in itertools.combinations(range(3), size)]
        pairs = [(t, c) for t in range(3) for c in range(3)]
        for rows in itertools.product(itertools.product(range(3), repeat=3), repeat=2):
            told = ask(found([4, 5, 6]), turn(rows[0]), turn(rows[1]), now(),
                       *[back(t, c) for t, c in pairs],
                       *[lines(t) for t in range(3)],
                       *[common(group) for group in groups])
            old = {(t, c): self.comes_of(rows, c, t) for t, c in pairs}
            due = [[2, 3] + [4 + old[2, c] for c in range(3)]]
            due += [[old[pair]] for pair in pairs]
            due += [[len({old[t, c] for c in range(3)})] for t in range(3)]
            due += [self.meeting(rows, group) for group in groups]
            self.assertEqual(told[3:], due, rows)


if __name__ == "__main__":
    unittest.main()
