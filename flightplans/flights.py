"""The first flight and the cheapest one.

What each due crew is offered stands in the order of the crews; a flight is a list of boats in the same order.
"""


def first_flight(offers):
    """The first flight, where an offer is a list of boats; None if there is no flight."""
    # Where no boat costs anything all flights cost the same, so the cheapest one is the first.
    found = cheapest_flight([free(offer) for offer in offers])
    if found is None:
        return None
    return found[1]


def free(boats):
    return dict([(boat, 0) for boat in boats])


def cheapest_flight(offers):
    """The least cost and the first flight that costs it, as a pair; None if there is no flight.

    An offer is a dict here: boats with their costs.
    """
    found = {0: (0, [])}
    for offer in offers:
        found = with_next_crew(found, offer)
    if not found:
        return None
    return min(found.values())


def with_next_crew(found, offer):
    """found holds, by the boats taken (a bit for each), the best beginning of a flight that takes them.

    One beginning for each such choice is enough: what can follow depends on the boats taken alone, so
    the best beginning stays the best with whatever follows.
    """
    longer = {}
    for taken, beginning in found.items():
        for boat, cost in offer.items():
            if taken & (1 << boat):
                continue
            now_taken = taken | (1 << boat)
            candidate = (beginning[0] + cost, beginning[1] + [boat])
            if now_taken not in longer or candidate < longer[now_taken]:
                longer[now_taken] = candidate
    return longer
