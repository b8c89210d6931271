"""The desk: one list of calls comes in, one list of their answers goes out."""

from fundgates.calls import CALLS
from fundgates.house import House
from fundgates.tells import TELLS

# By the calls' numbers: how many whole numbers each takes ahead of its row, if it has one.
WHOLE_NUMBERS = (0, 3, 1, 3, 4, 4, 2, 2, 3, 0, 1, 2, 1, 2, 1, 1, 1, 1, 1, 1, 2, 1, 0)
WITH_ROW = (9, 21)


def answers(calls):
    """For each call, in order, how many numbers are answered, then these; the calls work on a new house."""
    return answers_of(House(), calls)


def answers_of(house, calls):
    """Does the calls on this house, and gives back their answers."""
    given = []
    at = 0
    while at < len(calls):
        number = calls[at]
        end = at + 1 + WHOLE_NUMBERS[number]
        handed = calls[at + 1:end]
        if number in WITH_ROW:
            row_end = end + 1 + calls[end]
            handed.append(calls[end + 1:row_end])
            end = row_end
        answer = answer_of(call_of(number), house, handed)
        given.append(len(answer))
        given.extend(answer)
        at = end
    return given


def call_of(number):
    if number < len(CALLS):
        return CALLS[number]
    return TELLS[number - len(CALLS)]


def answer_of(call, house, handed):
    """Spreads what is handed in over the call's own parameters."""
    count = len(handed)
    if count == 0:
        return call(house)
    if count == 1:
        return call(house, handed[0])
    if count == 2:
        return call(house, handed[0], handed[1])
    if count == 3:
        return call(house, handed[0], handed[1], handed[2])
    return call(house, handed[0], handed[1], handed[2], handed[3])
