"""The calls: each changes the fleet or asks of it, and gives back the list of numbers that it answers.

A call is handed its whole numbers as one list; a call with a row is handed the row.
"""

from flightplans.fares import boat_prices, due_fares, proven
from flightplans.flights import cheapest_flight, first_flight
from flightplans.lacks import blocked_crews, boats_of, worst_lack
from flightplans.rests import can_sail, first_safe_flight, most_flights, plan_of

DONE = 0
NO_CREW = -1
OUT_OF_RANGE = -2
WRONG_ROW = -3
NO_BOAT = -4
REPEATED = -5
NONE_SAILED = -6
NO_FLIGHT = -7
ALL_SAILED = -8

MOST_OF_EACH = 7
HIGHEST_COST = 1000
HIGHEST_PRICE = 1000000
MOST_ASKED = 20
MOST_SAILED = 20


def begin(fleet, numbers):
    crews = numbers[0]
    boats = numbers[1]
    if not (1 <= crews <= MOST_OF_EACH and 1 <= boats <= MOST_OF_EACH):
        return [OUT_OF_RANGE]
    fleet.begin(crews, boats)
    return [DONE]


def refuse(fleet, numbers):
    return mark_pair(fleet, numbers[0], numbers[1], True)


def let(fleet, numbers):
    return mark_pair(fleet, numbers[0], numbers[1], False)


def cost(fleet, numbers):
    crew = numbers[0]
    boat = numbers[1]
    refusal = pair_refusal(fleet, crew, boat)
    if refusal is not None:
        return [refusal]
    if not 0 <= numbers[2] <= HIGHEST_COST:
        return [OUT_OF_RANGE]
    fleet.costs[crew][boat] = numbers[2]
    return [DONE]


def out(fleet, numbers):
    boat = numbers[0]
    if not fleet.has_boat(boat):
        return [NO_BOAT]
    if not 0 <= numbers[1] <= 1:
        return [OUT_OF_RANGE]
    fleet.boats_out[boat] = numbers[1] == 1
    return [DONE]


def due(fleet, row):
    if not all([fleet.has_crew(crew) for crew in row]):
        return [NO_CREW]
    if len(set(row)) != len(row):
        return [REPEATED]
    fleet.due_crews = sorted(row)
    return [len(row)]


def may(fleet, numbers):
    refusal = pair_refusal(fleet, numbers[0], numbers[1])
    if refusal is not None:
        return [refusal]
    return [1 if fleet.may_have(numbers[0], numbers[1]) else 0]


def size(fleet, numbers):
    return [len(fleet.due_crews) - worst_lack(fleet)]


def blocked(fleet, numbers):
    crews = blocked_crews(fleet)
    return counted(crews) + counted(boats_of(fleet, crews))


def first(fleet, numbers):
    return flight_answer(first_flight(fleet.due_offers()))


def best(fleet, numbers):
    return priced_answer(cheapest(fleet))


def prices(fleet, numbers):
    found = cheapest(fleet)
    if found is None:
        return [NO_FLIGHT]
    told = boat_prices(fleet, found[1])
    return counted(told) + counted(due_fares(fleet, told))


def check(fleet, row):
    if len(row) != fleet.boats or not all([0 <= price <= HIGHEST_PRICE for price in row]):
        return [WRONG_ROW]
    proof = proven(fleet, row)
    if proof is None:
        return [0]
    return [1, proof]


def rest(fleet, numbers):
    if not 0 <= numbers[0] <= MOST_ASKED:
        return [OUT_OF_RANGE]
    return [1 if can_sail(fleet.due_offers(), numbers[0]) else 0]


def most(fleet, numbers):
    return [most_flights(fleet.due_offers())]


def safe(fleet, numbers):
    if not 1 <= numbers[0] <= MOST_ASKED:
        return [OUT_OF_RANGE]
    return flight_answer(first_safe_flight(fleet.due_offers(), numbers[0]))


def plan(fleet, numbers):
    if not 1 <= numbers[0] <= MOST_ASKED:
        return [OUT_OF_RANGE]
    flights = plan_of(fleet.due_offers(), numbers[0])
    if flights is None:
        return [NO_FLIGHT]
    answer = [len(flights)]
    for flight in flights:
        answer.extend(counted(flight))
    return answer


def sail(fleet, row):
    if not is_flight(fleet, row):
        return [WRONG_ROW]
    if len(fleet.sailed) == MOST_SAILED:
        return [ALL_SAILED]
    fleet.sail(row)
    return [len(fleet.sailed)]


def back(fleet, numbers):
    if not fleet.sailed:
        return [NONE_SAILED]
    fleet.unsail()
    return [len(fleet.sailed)]


def log(fleet, numbers):
    answer = [len(fleet.sailed)]
    for pairs in fleet.sailed:
        answer.append(len(pairs))
        for crew, boat in pairs:
            answer.extend([crew, boat])
    return answer


def repair(fleet, row):
    if len(row) != len(fleet.due_crews) or not all([fleet.has_boat(boat) for boat in row]):
        return [WRONG_ROW]
    offers = [moving_offer(boats, told) for boats, told in zip(fleet.due_offers(), row)]
    return priced_answer(cheapest_flight(offers))


def counts(fleet, numbers):
    return [fleet.crews, fleet.boats, len(fleet.due_crews), fleet.boats_out.count(False), len(fleet.sailed)]


def pair_refusal(fleet, crew, boat):
    """The refusal if there is no such crew or no such boat; else None."""
    if not fleet.has_crew(crew):
        return NO_CREW
    if not fleet.has_boat(boat):
        return NO_BOAT
    return None


def mark_pair(fleet, crew, boat, refused):
    refusal = pair_refusal(fleet, crew, boat)
    if refusal is not None:
        return [refusal]
    if fleet.refused[crew][boat] == refused:
        return [REPEATED]
    fleet.refused[crew][boat] = refused
    return [DONE]


def is_flight(fleet, row):
    if len(row) != len(fleet.due_crews) or len(set(row)) != len(row):
        return False
    return all([boat in offer for boat, offer in zip(row, fleet.due_offers())])


def cheapest(fleet):
    return cheapest_flight([priced_offer(fleet, crew) for crew in fleet.due_crews])


def priced_offer(fleet, crew):
    return dict([(boat, fleet.costs[crew][boat]) for boat in fleet.boats_for(crew)])


def moving_offer(boats, told):
    """The boats, each at a cost of 1 but the one told: so a flight costs as many as it moves."""
    return dict([(boat, 0 if boat == told else 1) for boat in boats])


def flight_answer(flight):
    if flight is None:
        return [NO_FLIGHT]
    return counted(flight)


def priced_answer(found):
    """The answer for a pair of a cost and a flight, or for None where there is no flight."""
    if found is None:
        return [NO_FLIGHT]
    return [found[0]] + counted(found[1])


def counted(numbers):
    return [len(numbers)] + numbers


# By the calls' numbers.
CALLS = (begin, refuse, let, cost, out, due, may, size, blocked, first, best, prices, check, rest, most, safe,
         plan, sail, back, log, repair, counts)


def answer_call(fleet, number, numbers):
    call = CALLS[number]
    return call(fleet, numbers)
