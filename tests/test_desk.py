"""How calls are handed in and answers given back, and which refusal is answered first."""

import contextlib
import io
import sys
import unittest

from asking import (FAR_NUMBERS, GREATEST, LEAST, alike, ask, back, chances, common, every, first, found, lines, merge,
                    now, number, takes, taken_apart, toward, turn, undo, unlike, ways)
from genedrift.desk import answer_call, answers
from genedrift.population import Population
from genedrift.reading import read_calls


class FixedList(list):
    """A list that fails whoever changes it."""

    def refuse(self, *args, **kwargs):
        raise AssertionError("what is handed in is changed")

    __setitem__ = __delitem__ = __iadd__ = __imul__ = refuse
    append = extend = insert = pop = remove = clear = sort = reverse = refuse


class Form(unittest.TestCase):
    def test_each_call_number_by_number(self):
        calls = [
            0, 3, 1, 2, 2,
            1,
            2, 3, 0, 0, 1,
            4, 1,
            5, 1, 2,
            6, 2, 0, 1,
            6, 2, 0, 2,
            7, 1,
            8, 1,
            9, 2, 1, 1,
            10, 2, 1,
            11, 3, 2, 1,
            12, 1,
            13, 2, 1,
            14, 2, 2, 1, 2, 3, 0,
            15, 1, 2, 1,
            16, 1, 2, 1,
            3,
            3,
        ]
        self.assertEqual(answers(calls), [
            1, 0,
            5, 0, 3, 1, 2, 2,
            1, 1,
            1, 2,
            1, 1,
            3, 1, 1, 0,
            1, 0,
            1, 2,
            1, 27,
            1, 6,
            1, 8,
            1, 18,
            1, 9,
            1, 36,
            1, 8,
            2, 4, 7,
            3, 4, 2, 12,
            1, 0,
            1, -6,
        ])

    def test_a_refusal_is_its_number_alone(self):
        calls = [
            1,
            0, 0,
            0, 1, 5,
            6, 1, 1,
            8, 21,
            3,
            12, 1,
            14, 0, 0,
            15, 2, 1, 1,
            16, 1, 0, 1,
        ]
        self.assertEqual(answers(calls), [
            1, -1,
            1, -4,
            1, 0,
            1, -4,
            1, -3,
            1, -6,
            1, -3,
            1, -4,
            1, -3,
            1, -3,
        ])

    def test_a_refused_list_is_read_to_its_end(self):
        # Members that look like calls are not taken for some.
        told = ask(found([1, 2]), found([3] * 30), turn([1] * 30), common([1] * 30), turn([]), common([]), now())
        self.assertEqual(told, [[0], [-4], [-4], [-4], [-4], [-4], [0, 2, 1, 2]])

    def test_what_is_behind_a_call_is_read(self):
        told = ask(found([4, 4]), ways(1, 1, 1), first(1, 1), merge(2, 1, 1), alike(1), unlike(1, 1),
                   toward([1, 1], [2, 0]), takes(1, 1, 1), chances(1, 1, 1), toward([1] * 30, [1] * 30), toward([], []),
                   toward([2], []), toward([], [2]), now())
        self.assertEqual(told, [[0], [2], [1], [2], [2], [2], [1], [1, 2], [1, 1, 4], [-4], [-4], [-4], [-4],
                                [0, 2, 4, 4]])

    def test_any_call_is_first(self):
        firsts = [now(), turn([0]), undo(), number(0), back(0, 0), common([0]), lines(0), every(0), ways(0, 0, 0),
                  first(0, 0), merge(1, 1, 0), alike(0), unlike(0, 0), toward([1], [1]), takes(0, 1, 1),
                  chances(0, 1, 1)]
        for call in firsts:
            self.assertEqual(ask(call, found([2]), now()), [[-1], [0], [0, 1, 2]], call)

    def test_400_calls(self):
        calls = [found([1, 2, 3])]
        due = [[0]]
        while len(calls) < 400:
            calls += [turn([1, 2, 0]), now(), undo()]
            due += [[1], [1, 3, 2, 3, 1], [0]]
        self.assertEqual(len(calls), 400)
        self.assertEqual(ask(*calls), due)

    def test_400_calls_with_the_longest_lists(self):
        calls = ([0, 30] + [LEAST] * 30) * 200 + ([0, 30] + [GREATEST] * 30) * 200
        self.assertEqual(answers(calls), [1, -4] * 400)

    def test_400_calls_over_all_draws(self):
        round_of_calls = [ways(7, 7, 1), first(14, 1), merge(15, 8, 1), alike(1), unlike(7, 0),
                          toward([15], [15]), takes(7, 9, 8)]
        calls = [found([0] * 15)] + round_of_calls * 57
        self.assertEqual(len(calls), 400)
        due = [ask(found([0] * 15), call)[1] for call in round_of_calls]
        self.assertEqual(due[:2] + due[3:6], [[6435 * 7 ** 7 * 8 ** 8], [14 ** 15], [15 ** 14], [56], [15 ** 15]])
        self.assertEqual(ask(*calls)[1:], due * 57)

    def test_399_calls_over_the_longest_runs(self):
        for n, t in ((2, 20), (3, 12), (4, 7), (15, 20)):
            for call in (ways(1, 2, t), first(1, t), merge(n, 1, t), alike(t), unlike(1, t)):
                told = ask(found([0] * n), *[call] * 399)
                self.assertEqual(told, [[0]] + [told[1]] * 399, call)


class HandedIn(unittest.TestCase):
    CALLS = [0, 3, 1, 2, 2, 1, 2, 3, 0, 0, 1, 6, 2, 0, 1, 5, 1, 2, 4, 2, 7, 1, 8, 2, 2, 1, 5, 0, 0, 3, 1,
             9, 1, 1, 2, 10, 1, 2, 11, 3, 1, 2, 12, 2, 13, 1, 2, 14, 2, 1, 2, 2, 2, 1, 15, 1, 2, 3, 16, 1, 2, 3, 1]

    def test_is_not_changed(self):
        calls = list(self.CALLS)
        answers(calls)
        self.assertEqual(calls, self.CALLS)

    def test_is_not_changed_for_a_while_either(self):
        self.assertEqual(answers(FixedList(self.CALLS)), answers(self.CALLS))

    def test_nothing_is_kept(self):
        told = answers(self.CALLS)
        self.assertEqual(answers([1]), [1, -1])
        self.assertEqual(answers([3]), [1, -1])
        self.assertEqual(answers([9, 1, 1, 2, 15, 1, 2, 3]), [1, -1, 1, -1])
        self.assertEqual(answers(self.CALLS), told)

    def test_what_is_given_back_is_the_callers_own(self):
        told = answers(self.CALLS)
        due = list(told)
        told.clear()
        self.assertEqual(answers(self.CALLS), due)

    def test_nothing_is_printed_or_imported(self):
        printed = io.StringIO()
        modules = set(sys.modules)
        with contextlib.redirect_stdout(printed), contextlib.redirect_stderr(printed):
            answers(self.CALLS)
        self.assertEqual(printed.getvalue(), "")
        self.assertEqual(set(sys.modules), modules)


class NoSuchCall(unittest.TestCase):
    """The rows of a call; a list of calls can't hold such ones, so they are asked one by one."""

    WRONG = [
        [[]], [[], [1]],
        [[-1]], [[17]], [[100, 1]], [[LEAST]], [[GREATEST]],
        [[0]], [[0], [1], [1]], [[0, 1], [1]],
        [[1, 0]], [[1], []],
        [[2]], [[2], [0], [0]], [[2, 0], [0]],
        [[3, 0]], [[3], [0]],
        [[4]], [[4, 1, 1]], [[4, 1], [1]],
        [[5]], [[5, 0]], [[5, 0, 0, 0]], [[5, 0, 0], [0]],
        [[6]], [[6], [0], [0]], [[6, 0], [0]],
        [[7]], [[7, 0, 0]], [[7, 0], [0]],
        [[8]], [[8, 0, 0]], [[8, 0], [0]],
        [[9]], [[9, 0, 0]], [[9, 0, 0, 0, 0]], [[9, 0, 0, 0], [0]],
        [[10]], [[10, 0]], [[10, 0, 0, 0]], [[10, 0, 0], [0]],
        [[11]], [[11, 1, 1]], [[11, 1, 1, 0, 0]], [[11, 1, 1, 0], [0]],
        [[12]], [[12, 0, 0]], [[12, 0], [0]],
        [[13]], [[13, 0]], [[13, 0, 0, 0]], [[13, 0, 0], [0]],
        [[14]], [[14], [1]], [[14], [1], [1], [1]], [[14, 0], [1], [1]],
        [[15]], [[15, 0, 1]], [[15, 0, 1, 1, 1]], [[15, 0, 1, 1], [0]],
        [[16]], [[16, 0, 1]], [[16, 0, 1, 1, 1]], [[16, 0, 1, 1], [0]],
    ]

    def test_ahead_of_no_copies(self):
        for rows in self.WRONG:
            self.assertEqual(answer_call(Population(), rows), [-100], rows)

    def test_changes_nothing(self):
        for rows in self.WRONG:
            population = Population()
            answer_call(population, [[0], [6]])
            answer_call(population, [[2], [0]])
            self.assertEqual(answer_call(population, rows), [-100], rows)
            self.assertEqual(answer_call(population, [[1]]), [1, 1, 6], rows)

    def test_ahead_of_a_wrong_number_and_a_wrong_list(self):
        population = Population()
        answer_call(population, [[0], [6]])
        self.assertEqual(answer_call(population, [[4, 10, 10]]), [-100])
        self.assertEqual(answer_call(population, [[2, 0], [1, 1, 1]]), [-100])
        self.assertEqual(answer_call(population, [[9, 5, 5]]), [-100])
        self.assertEqual(answer_call(population, [[14], [1, 1, 1]]), [-100])

    def test_right_rows_are_calls(self):
        population = Population()
        rows = [[[0], [6]], [[1]], [[2], [0]], [[4, 6]], [[5, 1, 0]], [[6], [0]], [[7, 1]], [[8, 3]], [[3]],
                [[9, 1, 1, 2]], [[10, 1, 0]], [[11, 1, 1, 2]], [[12, 2]], [[13, 1, 2]], [[14], [1], [1]],
                [[15, 1, 2, 3]], [[16, 1, 2, 3]]]
        self.assertEqual([answer_call(population, call) for call in rows],
                         [[0], [0, 1, 6], [1], [1], [0], [1, 0, 0], [1], [1], [0],
                          [1], [1], [1], [-3], [0], [1], [1, 1], [0, 0, 2]])

    def test_rows_of_each_call_of_a_list(self):
        self.assertEqual(read_calls([0, 2, 7, 8, 5, 1, 2, 6, 0, 14, 1, 3, 2, 4, 5, 1]),
                         [[[0], [7, 8]], [[5, 1, 2]], [[6], []], [[14], [3], [4, 5]], [[1]]])


class OrderOfRefusals(unittest.TestCase):
    def test_no_copies_ahead_of_all_others(self):
        for far in FAR_NUMBERS:
            calls = [turn([]), turn([far]), number(far), back(far, far), common([]), common([far]), lines(far),
                     every(far), undo(), ways(far, far, far), first(far, far), merge(far, far, far), alike(far),
                     unlike(far, far), toward([], [far]), toward([far], []), takes(far, far, far),
                     chances(far, far, far)]
            self.assertEqual(ask(*calls), [[-1]] * len(calls), far)

    def test_no_copies_whatever_one_number_is(self):
        for far in FAR_NUMBERS + [0, 1, 2, 9, 15, 16, 20, 21]:
            calls = [ways(far, 0, 0), ways(0, far, 0), ways(0, 0, far), first(far, 0), first(0, far),
                     merge(far, 1, 0), merge(1, far, 0), merge(1, 1, far), alike(far), unlike(far, 0), unlike(0, far),
                     toward([far], [1]), toward([1], [far]), takes(far, 1, 1), takes(0, far, 1), takes(0, 1, far),
                     chances(far, 1, 1), chances(0, far, 1), chances(0, 1, far)]
            self.assertEqual(ask(*calls), [[-1]] * len(calls), far)
            self.assertEqual(ask(found([10]), *calls), [[-4]] + [[-1]] * len(calls), far)

    def test_no_copies_is_not_said_of_found(self):
        self.assertEqual(ask(found([]), found([10]), found([1])), [[-4], [-4], [0]])

    def test_a_wrong_number_ahead_of_too_many_runs(self):
        self.assertEqual(ask(found([1] * 15), every(21), every(20)), [[0], [-3], [-5]])
        for call, out_of_range in ((ways(7, 7, 20), ways(7, 7, 21)), (ways(7, 7, 20), ways(16, 7, 20)),
                                   (ways(7, 7, 20), ways(7, 16, 20)), (first(7, 20), first(7, 21)),
                                   (first(7, 20), first(16, 20)), (merge(7, 7, 20), merge(7, 7, 21)),
                                   (merge(7, 7, 20), merge(0, 7, 20)), (merge(7, 7, 20), merge(7, 0, 20)),
                                   (alike(20), alike(21)), (unlike(7, 20), unlike(7, 21)),
                                   (unlike(7, 1), unlike(16, 1))):
            self.assertEqual(ask(found([1] * 15), out_of_range, call), [[0], [-3], [-5]], call)

    def test_a_wrong_list_ahead_of_the_last_generation(self):
        told = ask(found([1, 2]), *[turn([0, 1])] * 100, turn([0, 2]), turn([0]), turn([0, 1]))
        self.assertEqual(told[-3:], [[-4], [-4], [-8]])


class RefusedCalls(unittest.TestCase):
    def test_change_nothing(self):
        refused = [
            (found([]), -4), (found([1] * 16), -4), (found([1, 10]), -4),
            (turn([]), -4), (turn([0, 1]), -4), (turn([0, 1, 2, 0]), -4), (turn([0, 1, 3]), -4), (turn([0, 0, 0]), -8),
            (number(-1), -3), (number(10), -3),
            (back(101, 0), -3), (back(0, 3), -3), (back(-1, 0), -3), (back(0, -1), -3),
            (common([]), -4), (common([0, 1, 2, 0]), -4), (common([3]), -4),
            (lines(101), -3), (lines(-1), -3),
            (every(21), -3), (every(-1), -3), (every(13), -5),
            (ways(4, 0, 0), -3), (ways(0, -1, 0), -3), (ways(0, 0, 21), -3), (ways(0, 0, 13), -5),
            (first(4, 0), -3), (first(0, -1), -3), (first(0, 13), -5),
            (merge(0, 1, 0), -3), (merge(1, 4, 0), -3), (merge(1, 1, 21), -3), (merge(1, 1, 13), -5),
            (alike(21), -3), (alike(13), -5),
            (unlike(4, 0), -3), (unlike(0, 21), -3), (unlike(0, 13), -5),
            (toward([], []), -4), (toward([3], [2, 1]), -4), (toward([2], [3]), -4), (toward([4, -1], [3, 0]), -4),
            (takes(4, 1, 1), -3), (takes(0, 0, 1), -3), (takes(0, 1, 10), -3),
            (chances(-1, 1, 1), -3), (chances(0, 10, 1), -3), (chances(0, 1, 0), -3),
        ]
        start = [found([4, 5, 6])] + [turn([1, 2, 0])] * 100
        look = [now(), back(100, 0), lines(100), undo(), now(), back(99, 0)]
        due = [[100, 3, 5, 6, 4], [1], [3], [99], [99, 3, 4, 5, 6], [0]]
        for call, refusal in refused:
            told = ask(*start, now(), call, *look)[101:]
            self.assertEqual(told, [[100, 3, 5, 6, 4], [refusal]] + due, call)

    def test_a_refused_alike_of_one_copy_changes_nothing(self):
        self.assertEqual(ask(found([4]), turn([0]), alike(1), now(), undo()), [[0], [1], [-3], [1, 1, 4], [0]])

    def test_a_sum_above_the_most_changes_nothing(self):
        kinds = [1, 2, 3, 4, 5, 6, 7, 8, 9, 0, 1, 2, 3, 4, 5]
        self.assertEqual(ask(found(kinds), turn(range(15)), unlike(7, 1), now(), undo(), now()),
                         [[0], [1], [-5], [1, 15] + kinds, [0], [0, 15] + kinds])

    def test_a_refused_undo_changes_nothing(self):
        self.assertEqual(ask(found([4, 5]), now(), undo(), now(), turn([1, 1]), now())[1:],
                         [[0, 2, 4, 5], [-6], [0, 2, 4, 5], [1], [1, 2, 5, 5]])


class CallsOverAllDraws(unittest.TestCase):
    def test_change_nothing(self):
        calls = [every(2), ways(1, 1, 2), first(1, 2), merge(3, 1, 2), alike(2), unlike(1, 2),
                 toward([2, 1], [1, 2]), takes(1, 2, 3), chances(1, 2, 3)]
        start = [found([4, 5, 6]), turn([1, 2, 0]), turn([0, 0, 2])]
        look = [now(), back(2, 2), lines(1), common([0, 1]), undo(), now(), back(1, 0)]
        due = [[2, 3, 5, 5, 4], [0], [2], [1, 1, 0], [1], [1, 3, 5, 6, 4], [1]]
        for call in calls:
            told = ask(*start, call, *look)
            self.assertGreaterEqual(told[3][0], 0, call)
            self.assertEqual(told[4:], due, call)

    def test_answer_the_same_again(self):
        calls = [every(2), ways(1, 1, 2), first(1, 2), merge(3, 1, 2), alike(2), unlike(1, 2),
                 toward([2, 1], [1, 2]), takes(1, 2, 3), chances(1, 2, 3)]
        told = ask(found([4, 5, 6]), *calls, *calls)[1:]
        self.assertEqual(told[:9], told[9:])


class Apart(unittest.TestCase):
    def test_the_tests_own_helper(self):
        self.assertEqual(taken_apart([1, 0, 3, 4, 5, 6]), [[0], [4, 5, 6]])
        for wrong in ([0], [2, 1], [-1]):
            with self.assertRaises(AssertionError):
                taken_apart(wrong)


if __name__ == "__main__":
    unittest.main()
