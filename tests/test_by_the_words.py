"""Lines drawn by a fixed seed, answered once by the program and once straight by the document's words."""

import itertools
import random
import unittest

from lines import (BACK, BEGIN, BLOCKED, CHECK, COST, COUNTS, DUE, FIRST, LET, LOG, MAY, MOST, OUT, PLAN, PRICES,
                   REFUSE, REPAIR, REST, SAFE, SAIL, SIZE, ask, check, due, repair, sail)


class Words:
    """The document's words, as slowly and plainly as they stand."""

    def __init__(self):
        self.begin(0, 0)

    def begin(self, crews, boats):
        self.crews, self.boats = range(crews), range(boats)
        self.refused, self.out, self.costs = set(), set(), {}
        self.due = list(self.crews)
        self.sailed = []

    def may(self, crew, boat):
        return ((crew, boat) not in self.refused and boat not in self.out
                and not any((crew, boat) in flight for flight in self.sailed))

    def offers(self):
        return [[boat for boat in self.boats if self.may(crew, boat)] for crew in self.due]

    def cost_of(self, flight):
        return sum(self.costs.get(pair, 0) for pair in zip(self.due, flight))

    def boats_of(self, crews):
        return [boat for boat in self.boats if any(self.may(crew, boat) for crew in crews)]

    def lacks(self):
        sets = itertools.chain(*[itertools.combinations(self.due, n) for n in range(len(self.due) + 1)])
        return {crews: max(0, len(crews) - len(self.boats_of(crews))) for crews in sets}

    def least_cost(self, doubled=None):
        """With one more boat just like the doubled one, which is told from it by a half."""
        offers = [offer + [boat + 0.5 for boat in offer if boat == doubled] for offer in self.offers()]
        return min(self.cost_of([int(boat) for boat in flight]) for flight in flights(offers))

    def fares(self, prices):
        return [min(self.costs.get((crew, boat), 0) + prices[boat] for boat in offer)
                for crew, offer in zip(self.due, self.offers())]

    def can_sail(self, offers, k):
        return k == 0 or any(self.can_sail(behind(offers, flight), k - 1) for flight in flights(offers))

    def safe(self, offers, k):
        return next(flight for flight in flights(offers) if self.can_sail(behind(offers, flight), k - 1))

    def answer(self, number, *numbers):
        if number in (REFUSE, LET, COST, MAY):
            crew, boat = numbers[:2]
            if crew not in self.crews:
                return [-1]
            if boat not in self.boats:
                return [-4]
            return self.answer_pair(number, (crew, boat), numbers[2:])
        if number in (DUE, CHECK, SAIL, REPAIR):
            return self.answer_row(number, list(numbers[1:]))
        if number in (BEGIN, OUT):
            return self.change(number, numbers)
        if number in (REST, SAFE, PLAN):
            return self.answer_k(number, numbers[0])
        if number in (BACK, LOG, COUNTS):
            return self.history(number)
        return self.question(number)

    def answer_pair(self, number, pair, more):
        if number == MAY:
            return [int(self.may(*pair))]
        if number == COST:
            if not 0 <= more[0] <= 1000:
                return [-2]
            self.costs[pair] = more[0]
            return [0]
        if (number == REFUSE) == (pair in self.refused):
            return [-5]
        self.refused ^= {pair}
        return [0]

    def answer_row(self, number, row):
        if number == DUE:
            if any(crew not in self.crews for crew in row):
                return [-1]
            if any(row.count(crew) > 1 for crew in row):
                return [-5]
            self.due = sorted(row)
            return [len(row)]
        if number == CHECK:
            if len(row) != len(self.boats) or any(price not in range(1000001) for price in row):
                return [-3]
            if [] in self.offers():
                return [0]
            return [1, sum(self.fares(row)) - sum(row[boat] for boat in self.boats if boat not in self.out)]
        if number == SAIL:
            if row not in list(flights(self.offers())):
                return [-3]
            if len(self.sailed) == 20:
                return [-8]
            self.sailed.append(list(zip(self.due, row)))
            return [len(self.sailed)]
        if len(row) != len(self.due) or any(boat not in self.boats for boat in row):
            return [-3]
        moved = [(sum(one != two for one, two in zip(row, flight)), flight) for flight in flights(self.offers())]
        if not moved:
            return [-7]
        return [min(moved)[0], len(row), *min(moved)[1]]

    def change(self, number, numbers):
        if number == OUT:
            if numbers[0] not in self.boats:
                return [-4]
            if numbers[1] not in (0, 1):
                return [-2]
            (self.out.add if numbers[1] else self.out.discard)(numbers[0])
            return [0]
        if not all(1 <= n <= 7 for n in numbers):
            return [-2]
        self.begin(*numbers)
        return [0]

    def answer_k(self, number, k):
        if k not in range(0 if number == REST else 1, 21):
            return [-2]
        offers = self.offers()
        can = self.can_sail(offers, k)
        if number == REST:
            return [int(can)]
        if not can:
            return [-7]
        if number == SAFE:
            return [len(self.due), *self.safe(offers, k)]
        given = [k]
        for left in range(k, 0, -1):
            flight = self.safe(offers, left)
            given += [len(flight), *flight]
            offers = behind(offers, flight)
        return given

    def history(self, number):
        if number == BACK:
            if not self.sailed:
                return [-6]
            self.sailed.pop()
            return [len(self.sailed)]
        if number == LOG:
            flat = [[len(flight), *itertools.chain(*flight)] for flight in self.sailed]
            return [len(self.sailed), *itertools.chain(*flat)]
        return [len(self.crews), len(self.boats), len(self.due), len(set(self.boats) - self.out), len(self.sailed)]

    def question(self, number):
        if number in (SIZE, BLOCKED):
            return self.lack(number)
        if number == MOST:
            return [max(k for k in range(8) if self.can_sail(self.offers(), k)) if self.due else 0]
        found = list(flights(self.offers()))
        if not found:
            return [-7]
        if number == FIRST:
            return [len(self.due), *found[0]]
        if number == PRICES:
            prices = [self.least_cost() - self.least_cost(boat) for boat in self.boats]
            return [len(prices), *prices, len(self.due), *self.fares(prices)]
        flight = min(found, key=self.cost_of)
        return [self.cost_of(flight), len(self.due), *flight]

    def lack(self, number):
        lacks = self.lacks()
        worst = max(lacks.values())
        if number == SIZE:
            return [len(self.due) - worst]
        crews = [crew for crew in self.due if all(crew in told for told in lacks if lacks[told] == worst)]
        boats = self.boats_of(crews)
        return [len(crews), *crews, len(boats), *boats]


class WordsAndShares(Words):
    """For large fleets, where flights are too many to try: as many flights can be sailed as each due crew
    can be given boats, no boat being given to more crews than that."""

    def can_sail(self, offers, k):
        given = {boat: [] for offer in offers for boat in offer}

        def give(crew, tried):
            for boat in offers[crew]:
                if crew in given[boat] or boat in tried:
                    continue
                tried.add(boat)
                if len(given[boat]) < k:
                    given[boat].append(crew)
                    return True
                for other in list(given[boat]):
                    if give(other, tried):
                        given[boat].remove(other)
                        given[boat].append(crew)
                        return True
            return False

        return all(give(crew, set()) for crew in range(len(offers)) for _ in range(k))


def flights(offers):
    """All flights, in order."""
    if not offers:
        yield []
        return
    for boat in sorted(offers[0]):
        for others in flights([[other for other in offer if other != boat] for offer in offers[1:]]):
            yield [boat, *others]


def behind(offers, flight):
    return [[boat for boat in offer if boat != taken] for offer, taken in zip(offers, flight)]


def drawn_row(draw, words, number):
    """A row that is mostly right for the call."""
    if draw.random() < 0.1:
        return [draw.randint(-1, 7) for _ in range(draw.choice((len(words.due), len(words.boats), 2)))]
    if number == DUE:
        crews = len(words.crews)
        return draw.sample(words.crews, draw.choice((crews, draw.randint(0, crews))))
    if number == CHECK:
        return [draw.choice((0, 0, draw.randint(0, 9), draw.randint(0, 1000000))) for _ in words.boats]
    if number == SAIL:
        some = list(itertools.islice(flights(words.offers()), 50))
        if some:
            return draw.choice(some)
    return [draw.choice(words.boats) for _ in words.due]


def drawn_call(draw, words, dearest):
    number = draw.choice([REFUSE] * 3 + [LET] * 6 + [COST] * 3 + [OUT, OUT, DUE, DUE, SAIL, SAIL, BACK, BACK]
                         + [SAFE, PLAN, PRICES] + list(range(MAY, COUNTS + 1)))
    crew = draw.choice(words.crews) if draw.random() < 0.95 else draw.randint(-1, 8)
    boat = draw.choice(words.boats) if draw.random() < 0.95 else draw.randint(-1, 8)
    if number in (REFUSE, LET, MAY):
        return (number, crew, boat)
    if number == COST:
        return (COST, crew, boat, draw.randint(0, dearest) if draw.random() < 0.9 else draw.choice((-1, 1001)))
    if number == OUT:
        return (OUT, boat, draw.choice((0, 0, 0, 0, 1, 1, 2)))
    if number in (REST, SAFE, PLAN):
        return (number, draw.choice((-1, 0, 1, 1, 2, 2, 2, 2, 3, 3, 3, 4, 4, 5, 6, 7, 8, 20, 21)))
    if number in ROWS:
        return ROWS[number](*drawn_row(draw, words, number))
    return (number,)


ROWS = {DUE: due, CHECK: check, SAIL: sail, REPAIR: repair}


def drawn_fleet(draw, fewest, most, dearest):
    """A fleet in which there often are flights, but not each of them is a safe one."""
    crews = draw.randint(fewest, most)
    boats = draw.choice((crews, draw.randint(crews, most), draw.randint(fewest, most)))
    pairs = list(itertools.product(range(crews), range(boats)))
    refusals = draw.sample(pairs, len(pairs) * draw.randint(0, 50) // 100)
    told = draw.choice(([], pairs))
    return ([(BEGIN, crews, boats)] + [(REFUSE, *pair) for pair in refusals]
            + [(COST, *pair, draw.randint(0, dearest)) for pair in told])


class ByTheWords(unittest.TestCase):
    def compare(self, lines, reading, fewest, most, seed=2026):
        draw = random.Random(seed)
        for _ in range(lines):
            words = reading()
            dearest = draw.choice((1, 2, 9, 1000))
            calls, wanted = [], []
            for _ in range(draw.choice((1, 1, 1, 2))):
                for call in drawn_fleet(draw, fewest, most, dearest):
                    calls.append(call)
                    wanted.append(words.answer(*call))
                for _ in range(draw.randint(5, 60)):
                    calls.append(drawn_call(draw, words, dearest))
                    wanted.append(words.answer(*calls[-1]))
            self.assertEqual(ask(*calls), wanted, calls)

    def test_small_fleets(self):
        self.compare(1500, Words, 1, 4)

    def test_small_fleets_by_shares(self):
        self.compare(300, WordsAndShares, 1, 4)

    def test_fleets_of_all_sizes(self):
        self.compare(150, WordsAndShares, 1, 7)

    def test_fleets_of_seven(self):
        self.compare(20, WordsAndShares, 7, 7)


if __name__ == "__main__":
    unittest.main()
