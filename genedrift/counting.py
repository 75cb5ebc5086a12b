"""The calls from 8 on: how many of all runs that could be are of some sort.

Each is handed the population, the call's whole numbers and its lists, and gives back the answer's numbers.
"""

from genedrift.refusals import NUMBER_OUT_OF_RANGE
from genedrift.refusals import TOO_MANY
from genedrift.refusals import is_within
from genedrift.runs import count_runs

MOST_GENERATIONS = 20
MOST_RUNS = 1000000000000000000


def answer_all(population, wholes, lists):
    t = wholes[0]
    if not is_within(t, 0, MOST_GENERATIONS):
        return [NUMBER_OUT_OF_RANGE]
    runs = count_runs(population.size(), t)
    if runs > MOST_RUNS:
        return [TOO_MANY]
    return [runs]


COUNTING_CALLS = {
    8: answer_all,
}


def is_counting_call(number):
    return number in COUNTING_CALLS


def answer_counting(population, number, wholes, lists):
    handler = COUNTING_CALLS[number]
    return handler(population, wholes, lists)
