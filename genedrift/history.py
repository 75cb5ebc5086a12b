"""The calls 0 to 7: generations by told draws, and who comes of whom in them.

Each is handed the population, the call's whole numbers and its lists, and gives back the answer's numbers.
"""

from genedrift.descent import ancestors_of
from genedrift.descent import common_ancestor
from genedrift.refusals import LAST_GENERATION
from genedrift.refusals import NOTHING_TO_UNDO
from genedrift.refusals import NUMBER_OUT_OF_RANGE
from genedrift.refusals import WRONG_LIST
from genedrift.refusals import is_list_within
from genedrift.refusals import is_within

MOST_COPIES = 15
HIGHEST_KIND = 9
HIGHEST_GENERATION = 100


def answer_found(population, wholes, lists):
    kinds = lists[0]
    if not is_list_within(kinds, 1, MOST_COPIES, 0, HIGHEST_KIND):
        return [WRONG_LIST]
    population.begin(kinds)
    return [0]


def answer_now(population, wholes, lists):
    return [population.generation(), population.size()] + population.newest_kinds()


def answer_turn(population, wholes, lists):
    draws = lists[0]
    n = population.size()
    if not is_list_within(draws, n, n, 0, n - 1):
        return [WRONG_LIST]
    if population.generation() == HIGHEST_GENERATION:
        return [LAST_GENERATION]
    population.turn(draws)
    return [population.generation()]


def answer_undo(population, wholes, lists):
    if population.generation() == 0:
        return [NOTHING_TO_UNDO]
    population.undo()
    return [population.generation()]


def answer_number(population, wholes, lists):
    kind = wholes[0]
    if not is_within(kind, 0, HIGHEST_KIND):
        return [NUMBER_OUT_OF_RANGE]
    return [population.newest_kinds().count(kind)]


def answer_back(population, wholes, lists):
    t = wholes[0]
    member = wholes[1]
    if not is_within(t, 0, population.generation()):
        return [NUMBER_OUT_OF_RANGE]
    if not is_within(member, 0, population.size() - 1):
        return [NUMBER_OUT_OF_RANGE]
    return ancestors_of([member], population.draw_rows, t)


def answer_common(population, wholes, lists):
    copies = lists[0]
    n = population.size()
    if not is_list_within(copies, 1, n, 0, n - 1):
        return [WRONG_LIST]
    meeting = common_ancestor(copies, population.draw_rows)
    if len(meeting) == 0:
        return [0]
    return [1] + meeting


def answer_lines(population, wholes, lists):
    t = wholes[0]
    if not is_within(t, 0, population.generation()):
        return [NUMBER_OUT_OF_RANGE]
    copies = list(range(population.size()))
    ancestors = ancestors_of(copies, population.draw_rows, t)
    return [len(set(ancestors))]


HISTORY_CALLS = {
    0: answer_found,
    1: answer_now,
    2: answer_turn,
    3: answer_undo,
    4: answer_number,
    5: answer_back,
    6: answer_common,
    7: answer_lines,
}


def is_history_call(number):
    return number in HISTORY_CALLS


def answer_history(population, number, wholes, lists):
    handler = HISTORY_CALLS[number]
    return handler(population, wholes, lists)
