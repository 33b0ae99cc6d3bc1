"""Lines drawn by a fixed seed, answered once by the program and once straight by the document's words."""

import itertools
import random
import unittest

from lines import BEGIN, BEST, BLOCKED, COST, DUE, FIRST, LET, MAY, OUT, REFUSE, SIZE, ask, due


class Words:
    """The document's words, as slowly and plainly as they stand."""

    def __init__(self):
        self.begin(0, 0)

    def begin(self, crews, boats):
        self.crews, self.boats = range(crews), range(boats)
        self.refused, self.out, self.costs = set(), set(), {}
        self.due = list(self.crews)

    def may(self, crew, boat):
        return (crew, boat) not in self.refused and boat not in self.out

    def flights(self):
        for boats in itertools.permutations(self.boats, len(self.due)):
            if all(self.may(crew, boat) for crew, boat in zip(self.due, boats)):
                yield list(boats)

    def cost_of(self, flight):
        return sum(self.costs.get(pair, 0) for pair in zip(self.due, flight))

    def boats_of(self, crews):
        return [boat for boat in self.boats if any(self.may(crew, boat) for crew in crews)]

    def lacks(self):
        sets = itertools.chain(*[itertools.combinations(self.due, n) for n in range(len(self.due) + 1)])
        return {crews: max(0, len(crews) - len(self.boats_of(crews))) for crews in sets}

    def answer(self, number, *numbers):
        if number in (REFUSE, LET, COST, MAY):
            crew, boat = numbers[:2]
            if crew not in self.crews:
                return [-1]
            if boat not in self.boats:
                return [-4]
            return self.answer_pair(number, (crew, boat), numbers[2:])
        if number in (BEGIN, OUT, DUE):
            return self.change(number, numbers)
        return self.question(number)

    def answer_pair(self, number, pair, more):
        if number == MAY:
            return [int(self.may(*pair))]
        if number == COST:
            if not 0 <= more[0] <= 1000:
                return [-2]
            self.costs[pair] = more[0]
            return [0]
        if (number == REFUSE) == (pair in self.refused):
            return [-5]
        self.refused ^= {pair}
        return [0]

    def change(self, number, numbers):
        if number == DUE:
            row = list(numbers[1:])
            if any(crew not in self.crews for crew in row):
                return [-1]
            if any(row.count(crew) > 1 for crew in row):
                return [-5]
            self.due = sorted(row)
            return [len(row)]
        if number == OUT:
            if numbers[0] not in self.boats:
                return [-4]
            if numbers[1] not in (0, 1):
                return [-2]
            (self.out.add if numbers[1] else self.out.discard)(numbers[0])
            return [0]
        if not all(1 <= n <= 7 for n in numbers):
            return [-2]
        self.begin(*numbers)
        return [0]

    def question(self, number):
        lacks = self.lacks()
        worst = max(lacks.values())
        if number == SIZE:
            return [len(self.due) - worst]
        if number == BLOCKED:
            crews = [crew for crew in self.due if all(crew in told for told in lacks if lacks[told] == worst)]
            boats = self.boats_of(crews)
            return [len(crews), *crews, len(boats), *boats]
        flights = list(self.flights())
        if not flights:
            return [-7]
        if number == FIRST:
            return [len(self.due), *flights[0]]
        flight = min(flights, key=self.cost_of)
        return [self.cost_of(flight), len(self.due), *flight]


def drawn_row(draw, crews):
    if draw.random() < 0.8:
        return draw.sample(range(crews), draw.randint(0, crews))
    return [draw.randint(-1, crews) for _ in range(draw.randint(0, 4))]


def drawn_call(draw, crews, boats, dearest):
    number = draw.choice([REFUSE] * 8 + [LET] * 2 + [COST] * 8 + [OUT, DUE, MAY, SIZE, BLOCKED, FIRST, BEST])
    crew = draw.randrange(crews) if draw.random() < 0.95 else draw.randint(-1, 8)
    boat = draw.randrange(boats) if draw.random() < 0.95 else draw.randint(-1, 8)
    if number in (REFUSE, LET, MAY):
        return (number, crew, boat)
    if number == COST:
        return (COST, crew, boat, draw.randint(0, dearest) if draw.random() < 0.95 else draw.choice((-1, 1001)))
    if number == OUT:
        return (OUT, boat, draw.choice((0, 0, 1, 1, 2)))
    if number == DUE:
        return due(*drawn_row(draw, crews))
    return (number,)


def drawn_line(draw, most):
    crews, boats = draw.randint(1, most), draw.randint(1, most)
    dearest = draw.choice((1, 2, 9, 1000))
    calls = [(BEGIN, crews, boats)]
    calls += [drawn_call(draw, crews, boats, dearest) for _ in range(draw.randint(5, 90))]
    return calls + [(SIZE,), (BLOCKED,), (FIRST,), (BEST,)]


class ByTheWords(unittest.TestCase):
    def compare(self, lines, most):
        draw = random.Random(2026)
        for _ in range(lines):
            calls = drawn_line(draw, most)
            if draw.random() < 0.2:
                calls += drawn_line(draw, most)
            words = Words()
            self.assertEqual(ask(*calls), [words.answer(*call) for call in calls], calls)

    def test_small_fleets(self):
        self.compare(500, 4)

    def test_fleets_of_all_sizes(self):
        self.compare(300, 7)


if __name__ == "__main__":
    unittest.main()
