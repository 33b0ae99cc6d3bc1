"""Sets of due crews that have too few boats among them."""


def worst_lack(fleet):
    return max([lack_of(pair) for pair in sets_with_boats(fleet)])


def blocked_crews(fleet):
    """The due crews that are in every set with the worst lack, by rising numbers."""
    pairs = sets_with_boats(fleet)
    worst = max([lack_of(pair) for pair in pairs])
    worst_sets = [pair[0] for pair in pairs if lack_of(pair) == worst]
    return [crew for crew in fleet.due_crews if in_every(worst_sets, crew)]


def boats_of(fleet, crews):
    """All boats that any of these crews may have, by rising numbers."""
    boats = []
    for crew in crews:
        boats = joined(boats, fleet.boats_for(crew))
    return boats


def sets_with_boats(fleet):
    """Every set of due crews, the empty one too, as a pair: its crews, and the boats of them."""
    pairs = [([], [])]
    for crew in fleet.due_crews:
        offered = fleet.boats_for(crew)
        pairs = pairs + [(crews + [crew], joined(boats, offered)) for crews, boats in pairs]
    return pairs


def in_every(sets, crew):
    return all([crew in crews for crews in sets])


def lack_of(pair):
    return max(0, len(pair[0]) - len(pair[1]))


def joined(boats, more):
    return sorted(set(boats) | set(more))
