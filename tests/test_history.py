"""The calls 0 to 4: found, now, turn, undo, number."""

import unittest

from asking import FAR_NUMBERS, ask, found, last, now, number, turn, undo

# Four copies, till kind 3 has taken over:
#   generation 0: kinds 1 2 3 4
#   generation 1, draws 2 2 0 3: kinds 3 3 1 4
#   generation 2, draws 1 0 3 0: kinds 3 3 4 3
#   generation 3, draws 3 1 0 0: kinds 3 3 3 3
STORY = [found([1, 2, 3, 4]), turn([2, 2, 0, 3]), turn([1, 0, 3, 0]), turn([3, 1, 0, 0])]


class Found(unittest.TestCase):
    def test_answers_0(self):
        self.assertEqual(ask(found([4, 0, 9])), [[0]])

    def test_copies_are_of_the_told_kinds_in_their_order(self):
        self.assertEqual(last(found([4, 0, 9, 4]), now()), [0, 4, 4, 0, 9, 4])

    def test_one_copy(self):
        self.assertEqual(ask(found([7]), now()), [[0], [0, 1, 7]])

    def test_fifteen_copies(self):
        kinds = [0, 1, 2, 3, 4, 5, 6, 7, 8, 9, 0, 1, 2, 3, 4]
        self.assertEqual(ask(found(kinds), now()), [[0], [0, 15] + kinds])

    def test_no_copies_and_more_than_fifteen_are_refused(self):
        for length in (0, 16, 17, 30):
            self.assertEqual(ask(found([1] * length)), [[-4]], length)

    def test_the_edges_of_the_kinds(self):
        self.assertEqual(ask(found([0]), found([9])), [[0], [0]])
        for kind in FAR_NUMBERS + [10]:
            self.assertEqual(ask(found([kind])), [[-4]], kind)

    def test_a_wrong_kind_is_found_at_any_place(self):
        for place in range(15):
            kinds = [5] * 15
            kinds[place] = 10
            self.assertEqual(ask(found(kinds)), [[-4]], place)

    def test_generations_of_before_are_gone(self):
        told = ask(*STORY, found([5, 6]), now(), undo(), now(), number(3))
        self.assertEqual(told[4:], [[0], [0, 2, 5, 6], [-6], [0, 2, 5, 6], [0]])

    def test_draws_of_before_are_gone(self):
        told = ask(*STORY, found([5, 6, 7]), turn([1, 2, 0]), now(), [5, 1, 0], [5, 2, 0], [7, 1], [7, 2])
        self.assertEqual(told[5:], [[1], [1, 3, 6, 7, 5], [1], [-3], [3], [-3]])

    def test_a_refused_one_changes_nothing(self):
        for kinds in ([], [1] * 16, [1, 10], [-1]):
            told = ask(*STORY[:2], now(), found(kinds), now(), undo(), now())
            self.assertEqual(told[2:], [[1, 4, 3, 3, 1, 4], [-4], [1, 4, 3, 3, 1, 4], [0], [0, 4, 1, 2, 3, 4]])

    def test_a_refused_one_at_the_beginning_leaves_no_copies(self):
        self.assertEqual(ask(found([10]), now(), found([3]), now()), [[-4], [-1], [0], [0, 1, 3]])


class Now(unittest.TestCase):
    def test_tells_each_generation(self):
        calls = [part for call in STORY for part in (call, now())]
        self.assertEqual(ask(*calls)[1::2], [
            [0, 4, 1, 2, 3, 4],
            [1, 4, 3, 3, 1, 4],
            [2, 4, 3, 3, 4, 3],
            [3, 4, 3, 3, 3, 3],
        ])

    def test_before_found(self):
        self.assertEqual(ask(now()), [[-1]])

    def test_changes_nothing(self):
        self.assertEqual(ask(found([1, 2]), now(), now()), [[0], [0, 2, 1, 2], [0, 2, 1, 2]])


class Turn(unittest.TestCase):
    def test_answers_the_new_number(self):
        self.assertEqual(ask(*STORY), [[0], [1], [2], [3]])

    def test_a_copy_is_of_its_parents_kind(self):
        self.assertEqual(last(found([5, 6, 7]), turn([1, 1, 0]), now()), [1, 3, 6, 6, 5])

    def test_one_copy(self):
        self.assertEqual(ask(found([2]), turn([0]), now()), [[0], [1], [1, 1, 2]])

    def test_fifteen_copies(self):
        kinds = [0, 1, 2, 3, 4, 5, 6, 7, 8, 9, 0, 1, 2, 3, 4]
        draws = [14, 13, 12, 11, 10, 9, 8, 7, 6, 5, 4, 3, 2, 1, 0]
        self.assertEqual(last(found(kinds), turn(draws), now()), [1, 15] + kinds[::-1])

    def test_before_found(self):
        self.assertEqual(ask(turn([0]), turn([]), turn([-5])), [[-1], [-1], [-1]])

    def test_a_row_of_another_length_is_refused(self):
        for length in (0, 1, 2, 4, 15, 30):
            self.assertEqual(last(found([1, 2, 3]), turn([0] * length)), [-4], length)

    def test_the_edges_of_the_draws(self):
        self.assertEqual(last(found([1, 2, 3]), turn([0, 2, 2])), [1])
        for draw in FAR_NUMBERS + [3]:
            for place in range(3):
                draws = [0, 1, 2]
                draws[place] = draw
                self.assertEqual(last(found([1, 2, 3]), turn(draws)), [-4], draws)

    def test_a_refused_one_changes_nothing(self):
        for draws in ([], [0], [0] * 5, [0, 0, 0, 4], [-1, 0, 0, 0]):
            told = ask(*STORY[:2], now(), turn(draws), now(), undo(), now())
            self.assertEqual(told[2:], [[1, 4, 3, 3, 1, 4], [-4], [1, 4, 3, 3, 1, 4], [0], [0, 4, 1, 2, 3, 4]])

    def test_up_to_generation_100(self):
        swaps = [turn([1, 0])] * 100
        told = ask(found([3, 8]), *swaps, now(), turn([0, 0]), now(), undo(), now(), turn([0, 0]), now(), turn([0, 0]))
        self.assertEqual(told[1:101], [[generation] for generation in range(1, 101)])
        self.assertEqual(told[101:], [
            [100, 2, 3, 8], [-8], [100, 2, 3, 8],
            [99], [99, 2, 8, 3],
            [100], [100, 2, 8, 8], [-8],
        ])

    def test_found_behind_generation_100(self):
        told = ask(found([3, 8]), *[turn([1, 0])] * 100, found([4]), turn([0]))
        self.assertEqual(told[-2:], [[0], [1]])

    def test_wrong_draws_are_told_ahead_of_the_last_generation(self):
        told = ask(found([3, 8]), *[turn([1, 0])] * 100, turn([0]), turn([0, 2]), turn([]), turn([1, 0]))
        self.assertEqual(told[-4:], [[-4], [-4], [-4], [-8]])


class Undo(unittest.TestCase):
    def test_answers_the_number_of_the_one_before(self):
        told = ask(*STORY, undo(), now(), undo(), now(), undo(), now())
        self.assertEqual(told[4:], [
            [2], [2, 4, 3, 3, 4, 3],
            [1], [1, 4, 3, 3, 1, 4],
            [0], [0, 4, 1, 2, 3, 4],
        ])

    def test_at_generation_0(self):
        told = ask(*STORY[:2], undo(), undo(), now(), undo())
        self.assertEqual(told[2:], [[0], [-6], [0, 4, 1, 2, 3, 4], [-6]])

    def test_straight_behind_found(self):
        self.assertEqual(ask(found([6]), undo(), now()), [[0], [-6], [0, 1, 6]])

    def test_before_found(self):
        self.assertEqual(ask(undo()), [[-1]])

    def test_another_turn_behind_it(self):
        told = ask(*STORY[:3], undo(), turn([3, 2, 1, 0]), now(), [5, 1, 0], [5, 2, 0], [5, 2, 1])
        # Copy 0 comes of 3, and that of 3; copy 1 of 2, and that of 0.
        self.assertEqual(told[3:], [[1], [2], [2, 4, 4, 1, 3, 3], [3], [3], [0]])


class Number(unittest.TestCase):
    def test_counts_the_newest_generation(self):
        told = ask(found([9, 0, 9, 5, 9]), *[number(kind) for kind in range(10)])
        self.assertEqual(told[1:], [[1], [0], [0], [0], [0], [1], [0], [0], [0], [3]])

    def test_behind_turns_and_an_undo(self):
        told = ask(*STORY, number(3), number(4), undo(), number(3), number(4), number(1))
        self.assertEqual(told[4:], [[4], [0], [2], [3], [1], [0]])

    def test_fifteen_of_a_kind(self):
        self.assertEqual(last(found([8] * 15), number(8)), [15])

    def test_the_edges_of_the_kinds(self):
        for kind in FAR_NUMBERS + [10]:
            told = ask(found([9, 0]), now(), number(kind), now())
            self.assertEqual(told[1:], [[0, 2, 9, 0], [-3], [0, 2, 9, 0]], kind)

    def test_before_found(self):
        for kind in FAR_NUMBERS + [0, 9, 10]:
            self.assertEqual(ask(number(kind)), [[-1]], kind)


if __name__ == "__main__":
    unittest.main()
