"""The boats' prices, the crews' fares by them, and what prices prove."""


def boat_prices(fleet, cheapest):
    """How much less the cheapest flight, which is handed in, would cost with one more boat like each.

    Some crew takes the added boat and leaves its own to another crew, and so on; a boat's price is what the
    best such chain saves. No crew has to stand in it twice, as crews of the cheapest flight that trade
    boats in a ring save nothing: so each of as many rounds as there are crews makes the chains one longer.
    """
    prices = [0] * fleet.boats
    for turn in range(len(cheapest)):
        for crew, own in zip(fleet.due_crews, cheapest):
            worth = fleet.costs[crew][own] + prices[own]
            for boat in fleet.boats_for(crew):
                prices[boat] = max(prices[boat], worth - fleet.costs[crew][boat])
    return prices


def due_fares(fleet, prices):
    """Each due crew's fare, by the crews' numbers; each must have some boat that it may have."""
    return [fare(fleet, crew, prices) for crew in fleet.due_crews]


def fare(fleet, crew, prices):
    return min([fleet.costs[crew][boat] + prices[boat] for boat in fleet.boats_for(crew)])


def proven(fleet, prices):
    """What the prices prove; None if they prove nothing."""
    if not all(fleet.due_offers()):
        return None
    charged = [prices[boat] for boat in range(fleet.boats) if not fleet.boats_out[boat]]
    return sum(due_fares(fleet, prices)) - sum(charged)
