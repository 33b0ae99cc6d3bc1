"""Takes a line of calls and answers them one behind another."""

from flightplans.calls import answer_call
from flightplans.fleet import Fleet

# By the calls' numbers: how many whole numbers stand behind the call's own.
WHOLE_NUMBERS = (2, 2, 2, 3, 2, 0, 2, 0, 0, 0, 0, 0, 0, 1, 0, 1, 1, 0, 0, 0, 0, 0)
# The calls with a row, which has its length ahead.
WITH_ROW = (5, 12, 17, 20)


def answers(calls):
    """For each call, in order, how many numbers are answered, then these."""
    fleet = Fleet()
    given = []
    place = 0
    while place < len(calls):
        number = calls[place]
        start = place + 1
        length = WHOLE_NUMBERS[number]
        if number in WITH_ROW:
            length = calls[start]
            start = start + 1
        place = start + length
        answer = answer_call(fleet, number, calls[start:place])
        given.append(len(answer))
        given.extend(answer)
    return given
