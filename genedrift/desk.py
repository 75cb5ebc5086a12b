"""Where calls are handed in and answers given back."""

from genedrift.counting import answer_counting
from genedrift.counting import is_counting_call
from genedrift.history import answer_history
from genedrift.history import is_history_call
from genedrift.population import Population
from genedrift.reading import read_calls
from genedrift.reading import shape_of
from genedrift.refusals import NO_COPIES
from genedrift.refusals import NO_SUCH_CALL

FOUND = 0


def is_call(rows):
    """Whether these rows are a call that there is, with as many whole numbers and lists as are told."""
    if len(rows[0]) == 0:
        return False
    number = rows[0][0]
    if not is_history_call(number) and not is_counting_call(number):
        return False
    shape = shape_of(number)
    return len(rows[0]) == 1 + shape[0] and len(rows) == 1 + shape[1]


def answer_call(population, rows):
    """The numbers that one call answers; the population changes where the call says so."""
    if not is_call(rows):
        return [NO_SUCH_CALL]
    number = rows[0][0]
    if number != FOUND and not population.has_copies():
        return [NO_COPIES]
    wholes = rows[0][1:]
    lists = rows[1:]
    if is_history_call(number):
        return answer_history(population, number, wholes, lists)
    return answer_counting(population, number, wholes, lists)


def answers(calls):
    """For each call of the list, in order: how many numbers are answered, then these."""
    population = Population()
    told = []
    for rows in read_calls(calls):
        answer = answer_call(population, rows)
        told.append(len(answer))
        told.extend(answer)
    return told
