"""How many flights can still be sailed, and by which flight one begins so as not to spoil them.

Offers are lists of the boats that each due crew may have, in the order of the crews.
"""

from flightplans.flights import first_flight


class Places:
    """How many places the boats have for each set of due crews.

    A set's number has a bit for each of the due crews, and lists by set go by these numbers.

    So many flights can be sailed just if no set has fewer places than it needs for them. Each of its crews
    needs one in every flight; a boat has one for each of them that may have it, but no more than there are
    flights. Then each crew can be given so many boats and no boat more crews than that (Hall's theorem), and
    such pairs can be parted into so many flights (Koenig's theorem on colouring edges).
    """

    def __init__(self, offers):
        self.sizes = counts_by_set([1] * len(offers))
        self.takers = {}
        for boat in offered(offers):
            self.takers[boat] = counts_by_set([1 if boat in offer else 0 for offer in offers])

    def spare(self, flights):
        """By set: how many places it has more than it needs for so many flights."""
        places = [-flights * crews for crews in self.sizes]
        for takers in self.takers.values():
            places = [had + min(flights, more) for had, more in zip(places, takers)]
        return places

    def enough_for(self, flights):
        return min(self.spare(flights)) >= 0

    def scarce(self, flights):
        """By boat: the sets that lose a place for so many flights when one of their crews has had the boat."""
        return dict([(boat, no_more_than(flights, takers)) for boat, takers in self.takers.items()])


def offered(offers):
    boats = []
    for offer in offers:
        boats.extend(offer)
    return sorted(set(boats))


def counts_by_set(marks):
    """By set: the marks of its crews together, of which each crew has one."""
    counts = [0]
    for mark in marks:
        counts = counts + [count + mark for count in counts]
    return counts


def no_more_than(limit, counts):
    return [number for number, count in enumerate(counts) if count <= limit]


def can_sail(offers, flights):
    return Places(offers).enough_for(flights)


def most_flights(offers):
    # Of empty flights there is no greatest number.
    if not offers:
        return 0
    places = Places(offers)
    flights = 0
    while places.enough_for(flights + 1):
        flights = flights + 1
    return flights


def plan_of(offers, flights):
    """A plan of so many flights, as a list of them; None if so many can't be sailed."""
    plan = []
    for left in range(flights, 0, -1):
        flight = first_safe_flight(offers, left)
        if flight is None:
            return None
        plan.append(flight)
        offers = [without(offer, boat) for offer, boat in zip(offers, flight)]
    return plan


def without(offer, taken):
    return [boat for boat in offer if boat != taken]


def first_safe_flight(offers, flights):
    """The first safe flight for so many; None if so many can't be sailed."""
    # Nothing has to be left behind the last one, and the first flight is found without trying many.
    if flights == 1:
        return first_flight(offers)
    places = Places(offers)
    if not places.enough_for(flights):
        return None
    return completed([], offers, places.scarce(flights - 1), places.spare(flights - 1))


def completed(beginning, offers, scarce, spare):
    """The first flight with this beginning that leaves no set short of places; None if there is none.

    spare is what is left of places by set when the beginning has been sailed.
    """
    crew = len(beginning)
    if crew == len(offers):
        return beginning
    for boat in offers[crew]:
        if boat in beginning:
            continue
        losing = [number for number in scarce[boat] if number & (1 << crew)]
        if not all([spare[number] > 0 for number in losing]):
            continue
        flight = completed(beginning + [boat], offers, scarce, one_less(spare, losing))
        if flight is not None:
            return flight
    return None


def one_less(spare, losing):
    left = list(spare)
    for number in losing:
        left[number] = left[number] - 1
    return left
