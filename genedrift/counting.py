"""The calls from 8 on: what's told over all draws that could be, as numbers of runs or as chances.

Each is handed the population, the call's whole numbers and its lists, and gives back the answer's numbers.
"""

from genedrift.backward import count_merge
from genedrift.forward import count_first
from genedrift.forward import count_toward
from genedrift.forward import count_ways
from genedrift.forward import sum_unlike
from genedrift.refusals import NUMBER_OUT_OF_RANGE
from genedrift.refusals import TOO_MANY
from genedrift.refusals import WRONG_LIST
from genedrift.refusals import are_within
from genedrift.refusals import is_list_within
from genedrift.refusals import is_within
from genedrift.runs import count_runs
from genedrift.takeover import chance_to_take_over
from genedrift.takeover import step_chances

MOST_GENERATIONS = 20
MOST_RUNS = 1000000000000000000
MOST_LISTED_KINDS = 10
MOST_LISTED_COPIES = 15
HIGHEST_WEIGHT = 9


def refusal_over_runs(n, amounts, least, t):
    """The refusal of a call over runs of t generations, with amounts from least to n; empty where none is due."""
    if not are_within(amounts, least, n) or not is_within(t, 0, MOST_GENERATIONS):
        return [NUMBER_OUT_OF_RANGE]
    if count_runs(n, t) > MOST_RUNS:
        return [TOO_MANY]
    return []


def answer_all(population, wholes, lists):
    n = population.size()
    t = wholes[0]
    refusal = refusal_over_runs(n, [], 0, t)
    if len(refusal) > 0:
        return refusal
    return [count_runs(n, t)]


def answer_ways(population, wholes, lists):
    n = population.size()
    i = wholes[0]
    j = wholes[1]
    t = wholes[2]
    refusal = refusal_over_runs(n, [i, j], 0, t)
    if len(refusal) > 0:
        return refusal
    return [count_ways(n, i, t)[j]]


def answer_first(population, wholes, lists):
    n = population.size()
    i = wholes[0]
    t = wholes[1]
    refusal = refusal_over_runs(n, [i], 0, t)
    if len(refusal) > 0:
        return refusal
    return [count_first(n, i, t)]


def answer_merge(population, wholes, lists):
    n = population.size()
    m = wholes[0]
    k = wholes[1]
    t = wholes[2]
    refusal = refusal_over_runs(n, [m, k], 1, t)
    if len(refusal) > 0:
        return refusal
    return [count_merge(n, m, t)[k]]


def answer_alike(population, wholes, lists):
    n = population.size()
    t = wholes[0]
    if n == 1:
        return [NUMBER_OUT_OF_RANGE]
    refusal = refusal_over_runs(n, [], 0, t)
    if len(refusal) > 0:
        return refusal
    return [count_merge(n, 2, t)[1]]


def answer_unlike(population, wholes, lists):
    n = population.size()
    i = wholes[0]
    t = wholes[1]
    refusal = refusal_over_runs(n, [i], 0, t)
    if len(refusal) > 0:
        return refusal
    unlike = sum_unlike(n, i, t)
    if unlike > MOST_RUNS:
        return [TOO_MANY]
    return [unlike]


def are_amounts_of_kinds(amounts, n):
    """Whether these can be the numbers of copies of some kinds, all of them n copies."""
    return is_list_within(amounts, 1, MOST_LISTED_KINDS, 0, MOST_LISTED_COPIES) and sum(amounts) == n


def answer_toward(population, wholes, lists):
    n = population.size()
    old_amounts = lists[0]
    new_amounts = lists[1]
    if not are_amounts_of_kinds(old_amounts, n) or not are_amounts_of_kinds(new_amounts, n):
        return [WRONG_LIST]
    if len(old_amounts) != len(new_amounts):
        return [WRONG_LIST]
    return [count_toward(n, old_amounts, new_amounts)]


def are_copies_and_weights(n, wholes):
    """Whether these are i, from 0 to n, and the two weights."""
    return is_within(wholes[0], 0, n) and are_within(wholes[1:], 1, HIGHEST_WEIGHT)


def answer_takes(population, wholes, lists):
    n = population.size()
    if not are_copies_and_weights(n, wholes):
        return [NUMBER_OUT_OF_RANGE]
    return chance_to_take_over(n, wholes[0], wholes[1], wholes[2])


def answer_chances(population, wholes, lists):
    n = population.size()
    if not are_copies_and_weights(n, wholes):
        return [NUMBER_OUT_OF_RANGE]
    return step_chances(n, wholes[0], wholes[1], wholes[2])


COUNTING_CALLS = {
    8: answer_all,
    9: answer_ways,
    10: answer_first,
    11: answer_merge,
    12: answer_alike,
    13: answer_unlike,
    14: answer_toward,
    15: answer_takes,
    16: answer_chances,
}


def is_counting_call(number):
    return number in COUNTING_CALLS


def answer_counting(population, number, wholes, lists):
    handler = COUNTING_CALLS[number]
    return handler(population, wholes, lists)
