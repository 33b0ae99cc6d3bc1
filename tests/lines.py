"""Lines of calls for the tests: calls are written as tuples, and answers come back as a list for each call."""

import unittest

from flightplans.desk import answers

(BEGIN, REFUSE, LET, COST, OUT, DUE, MAY, SIZE, BLOCKED, FIRST, BEST, PRICES, CHECK, REST, MOST, SAFE, PLAN, SAIL,
 BACK, LOG, REPAIR, COUNTS) = range(22)

LOWEST = -2147483648
HIGHEST = 2147483647


def due(*crews):
    return (DUE, len(crews), *crews)


def check(*prices):
    return (CHECK, len(prices), *prices)


def sail(*boats):
    return (SAIL, len(boats), *boats)


def repair(*boats):
    return (REPAIR, len(boats), *boats)


def costs(*rows):
    return [(COST, crew, boat, n) for crew, row in enumerate(rows) for boat, n in enumerate(row)]


def all_out(boats):
    return [(OUT, boat, 1) for boat in range(boats)]


def refuse_all_but(crew, boats, kept):
    return [(REFUSE, crew, boat) for boat in range(boats) if boat not in kept]


def only(boats, *kept):
    """Each crew may have just the boats told for it: (0, 1) is crew 0's or 1's, and so on."""
    calls = [(BEGIN, len(kept), boats)]
    for crew, own in enumerate(kept):
        calls += refuse_all_but(crew, boats, own)
    return calls


def flat(calls):
    return [number for call in calls for number in call]


def apart(given):
    found = []
    place = 0
    while place < len(given):
        length = given[place]
        found.append(given[place + 1:place + 1 + length])
        if len(found[-1]) != length:
            raise AssertionError("the last answer is cut off")
        place += 1 + length
    return found


def ask(*calls):
    """What each of these calls is answered."""
    found = apart(answers(flat(calls)))
    if len(found) != len(calls):
        raise AssertionError(f"{len(calls)} calls, {len(found)} answers")
    return found


def last(*calls):
    return ask(*calls)[-1]


def behind(before, calls):
    """What the calls are answered behind others, whose answers aren't asked for."""
    return ask(*before, *calls)[len(before):]


def probe(crews, boats):
    """Calls whose answers tell all that is held of so many crews and boats. They change it: ask them last."""
    pairs = [(crew, boat) for crew in range(-1, crews + 1) for boat in range(-1, boats + 1)]
    calls = [(COUNTS,), (LOG,), (SIZE,), (BLOCKED,), (FIRST,), (BEST,), (PRICES,), (MOST,)]
    calls += [(MAY, crew, boat) for crew, boat in pairs]
    calls += [(BACK,), (LOG,), (BACK,), (LOG,)]
    calls += [(LET, crew, boat) for crew, boat in pairs]
    calls += [(MAY, crew, boat) for crew, boat in pairs]
    calls += [(FIRST,), (BEST,)]
    calls += [(OUT, boat, 1) for boat in range(boats)]
    for crew in range(crews):
        calls.append(due(crew))
        for boat in range(boats):
            calls += [(OUT, boat, 0), (BEST,), (OUT, boat, 1)]
    return calls


# Three crews and three boats, with something told of each sort; crews 0 and 1 have sailed with boats 1 and 2.
TOLD = [(BEGIN, 3, 3), (REFUSE, 0, 0), (REFUSE, 2, 1), (COST, 0, 1, 5), (COST, 1, 0, 7), (COST, 2, 2, 1000),
        due(0, 1), sail(1, 2), due(1, 2), (OUT, 2, 1)]


class LineTest(unittest.TestCase):
    def refused(self, number, *call, before=TOLD):
        """The call is refused by this number alone, and all is as if it had not been there."""
        self.assertEqual(behind(before, [call])[0], [number])
        self.unchanged(before, call)

    def unchanged(self, before, call):
        probes = probe(3, 3)
        self.assertEqual(behind(before + [call], probes), behind(before, probes))
