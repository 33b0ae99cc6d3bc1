"""The calls: each changes the fleet or asks of it, and gives back the list of numbers that it answers.

A call is handed its whole numbers as one list; a call with a row is handed the row.
"""

from flightplans.flights import cheapest_flight
from flightplans.lacks import blocked_crews, boats_of, worst_lack

DONE = 0
NO_CREW = -1
OUT_OF_RANGE = -2
NO_BOAT = -4
REPEATED = -5
NO_FLIGHT = -7

MOST_OF_EACH = 7
HIGHEST_COST = 1000


def begin(fleet, numbers):
    crews = numbers[0]
    boats = numbers[1]
    if not (1 <= crews <= MOST_OF_EACH and 1 <= boats <= MOST_OF_EACH):
        return [OUT_OF_RANGE]
    fleet.begin(crews, boats)
    return [DONE]


def refuse(fleet, numbers):
    return mark_pair(fleet, numbers[0], numbers[1], True)


def let(fleet, numbers):
    return mark_pair(fleet, numbers[0], numbers[1], False)


def cost(fleet, numbers):
    crew = numbers[0]
    boat = numbers[1]
    refusal = pair_refusal(fleet, crew, boat)
    if refusal is not None:
        return [refusal]
    if not 0 <= numbers[2] <= HIGHEST_COST:
        return [OUT_OF_RANGE]
    fleet.costs[crew][boat] = numbers[2]
    return [DONE]


def out(fleet, numbers):
    boat = numbers[0]
    if not fleet.has_boat(boat):
        return [NO_BOAT]
    if not 0 <= numbers[1] <= 1:
        return [OUT_OF_RANGE]
    fleet.boats_out[boat] = numbers[1] == 1
    return [DONE]


def due(fleet, row):
    if not all([fleet.has_crew(crew) for crew in row]):
        return [NO_CREW]
    if len(set(row)) != len(row):
        return [REPEATED]
    fleet.due_crews = sorted(row)
    return [len(row)]


def may(fleet, numbers):
    refusal = pair_refusal(fleet, numbers[0], numbers[1])
    if refusal is not None:
        return [refusal]
    return [1 if fleet.may_have(numbers[0], numbers[1]) else 0]


def size(fleet, numbers):
    return [len(fleet.due_crews) - worst_lack(fleet)]


def blocked(fleet, numbers):
    crews = blocked_crews(fleet)
    return counted(crews) + counted(boats_of(fleet, crews))


def first(fleet, numbers):
    # Where no boat costs anything all flights cost the same, so the cheapest one is the first.
    found = cheapest_flight([free_offer(fleet, crew) for crew in fleet.due_crews])
    if found is None:
        return [NO_FLIGHT]
    return counted(found[1])


def best(fleet, numbers):
    found = cheapest_flight([priced_offer(fleet, crew) for crew in fleet.due_crews])
    if found is None:
        return [NO_FLIGHT]
    return [found[0]] + counted(found[1])


def pair_refusal(fleet, crew, boat):
    """The refusal if there is no such crew or no such boat; else None."""
    if not fleet.has_crew(crew):
        return NO_CREW
    if not fleet.has_boat(boat):
        return NO_BOAT
    return None


def mark_pair(fleet, crew, boat, refused):
    refusal = pair_refusal(fleet, crew, boat)
    if refusal is not None:
        return [refusal]
    if fleet.refused[crew][boat] == refused:
        return [REPEATED]
    fleet.refused[crew][boat] = refused
    return [DONE]


def free_offer(fleet, crew):
    return dict([(boat, 0) for boat in fleet.boats_for(crew)])


def priced_offer(fleet, crew):
    return dict([(boat, fleet.costs[crew][boat]) for boat in fleet.boats_for(crew)])


def counted(numbers):
    return [len(numbers)] + numbers


# By the calls' numbers.
CALLS = (begin, refuse, let, cost, out, due, may, size, blocked, first, best)


def answer_call(fleet, number, numbers):
    call = CALLS[number]
    return call(fleet, numbers)
