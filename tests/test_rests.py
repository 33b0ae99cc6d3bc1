"""The calls about the flights that can still be sailed: rest, most, safe, plan (13 to 16)."""

import unittest

from lines import (BACK, BEGIN, COST, FIRST, HIGHEST, LET, LOWEST, MOST, OUT, PLAN, REFUSE, REST, SAFE, TOLD, LineTest,
                   all_out, apart, ask, behind, due, last, only, sail)

# The first flight, boats 0 and 1, leaves boat 2 alone to both crews.
SPOILT = only(3, [0, 2], [1, 2])
# The first flight, the first safe one for 2, and that for 3 are three flights; 4 can't be sailed.
THREE = only(5, [0, 1, 2, 3, 4], [0, 2, 4], [0, 3, 4], [0, 1, 4])
# Each crew may have two boats, but crew 2 has boat 2 in each flight: crews 0 and 1 need both others.
ONCE = only(3, [0, 1], [0, 1], [1, 2])


def empty_flights(number):
    return [due(), *[sail()] * number]


class Rest(LineTest):
    def test_before_begin_empty_flights_can_be_sailed(self):
        self.assertEqual(ask(*[(REST, k) for k in range(21)]), [[1]] * 21)
        self.assertEqual(ask((REST, -1), (REST, 21)), [[-2], [-2]])

    def test_as_many_as_boats_if_there_are_no_more_crews(self):
        for crews in range(1, 8):
            for boats in range(1, 8):
                fit = boats if crews <= boats else 0
                given = behind([(BEGIN, crews, boats)], [(REST, k) for k in range(21)])
                self.assertEqual(given, [[1]] * (fit + 1) + [[0]] * (20 - fit))

    def test_none_is_always_sailed(self):
        self.assertEqual(last(*only(2, [0], [0]), (REST, 0)), [1])
        self.assertEqual(last((BEGIN, 3, 3), *all_out(3), (REST, 0)), [1])
        self.assertEqual(last(*only(1, []), (REST, 0)), [1])

    def test_one_is_a_flight(self):
        self.assertEqual(last(*only(2, [0], [0]), (REST, 1)), [0])
        self.assertEqual(last(*only(2, [0], [1]), (REST, 1)), [1])
        self.assertEqual(last(*only(1, []), (REST, 1)), [0])

    def test_boats_enough_for_each_crew_but_not_for_all(self):
        self.assertEqual(behind(ONCE, [(REST, 1), (REST, 2)]), [[1], [0]])
        self.assertEqual(behind(ONCE, [(LET, 2, 0), (REST, 2)]), [[0], [0]])
        self.assertEqual(behind(ONCE, [due(0, 1), (REST, 2), due(1, 2), (REST, 2)]), [[2], [1], [2], [1]])

    def test_not_spoilt_by_the_first_flight(self):
        self.assertEqual(behind(SPOILT, [(REST, 2), (REST, 3)]), [[1], [0]])
        self.assertEqual(behind(THREE, [(REST, 3), (REST, 4)]), [[1], [0]])

    def test_what_was_sailed_counts(self):
        self.assertEqual(behind(SPOILT, [sail(0, 1), (REST, 2), (REST, 1), (BACK,), (REST, 2), sail(0, 2), (REST, 1),
                                         (REST, 2)]),
                         [[1], [0], [0], [0], [1], [1], [1], [0]])

    def test_how_many_have_been_sailed_is_not_asked(self):
        told = [(BEGIN, 7, 7), *empty_flights(20)]
        self.assertEqual(behind(told, [(REST, 20), due(*range(7)), (REST, 7), (REST, 8)]), [[1], [7], [1], [0]])

    def test_nobody_due(self):
        told = [(BEGIN, 2, 2), *all_out(2), due()]
        self.assertEqual(behind(told, [(REST, k) for k in range(21)]), [[1]] * 21)

    def test_out_of_range(self):
        for k in (-1, 21, LOWEST, HIGHEST):
            with self.subTest(k=k):
                self.refused(-2, REST, k)
                self.assertEqual(last((BEGIN, 2, 2), due(), (REST, k)), [-2])

    def test_changes_nothing(self):
        for k in (0, 1, 2, 20):
            self.unchanged(TOLD, (REST, k))
            self.unchanged(SPOILT, (REST, k))


class Most(LineTest):
    def test_nobody_due(self):
        self.assertEqual(ask((MOST,)), [[0]])
        self.assertEqual(last((BEGIN, 7, 7), due(), (MOST,)), [0])

    def test_all_free(self):
        for crews in range(1, 8):
            for boats in range(1, 8):
                self.assertEqual(last((BEGIN, crews, boats), (MOST,)), [boats if crews <= boats else 0])

    def test_the_crew_with_the_fewest_boats(self):
        self.assertEqual(last(*only(5, [0, 1, 2, 3, 4], [3, 4]), (MOST,)), [2])

    def test_the_greatest(self):
        self.assertEqual(last(*SPOILT, (MOST,)), [2])
        self.assertEqual(last(*THREE, (MOST,)), [3])
        self.assertEqual(last(*ONCE, (MOST,)), [1])
        self.assertEqual(last(*only(3, [0], [0], [1, 2]), (MOST,)), [0])

    def test_boats_that_are_out(self):
        self.assertEqual(ask((BEGIN, 2, 5), (OUT, 1, 1), (MOST,), (OUT, 1, 0), (MOST,)), [[0], [0], [4], [0], [5]])
        self.assertEqual(last((BEGIN, 3, 3), *all_out(3), (MOST,)), [0])

    def test_what_was_sailed_counts(self):
        self.assertEqual(behind(SPOILT, [sail(0, 1), (MOST,), (BACK,), (MOST,), sail(2, 1), (MOST,), sail(0, 2),
                                         (MOST,)]),
                         [[1], [0], [0], [2], [1], [1], [2], [0]])

    def test_how_many_have_been_sailed_is_not_asked(self):
        self.assertEqual(last((BEGIN, 7, 7), *empty_flights(20), due(*range(7)), (MOST,)), [7])

    def test_changes_nothing(self):
        self.unchanged(TOLD, (MOST,))
        self.unchanged(SPOILT, (MOST,))


class Safe(LineTest):
    def test_before_begin_an_empty_flight(self):
        self.assertEqual(ask((SAFE, 1), (SAFE, 20), (SAFE, 0), (SAFE, 21)), [[0], [0], [-2], [-2]])

    def test_for_one_the_first_flight(self):
        for told in (SPOILT, THREE, ONCE, only(3, [0, 1, 2], [0], [0, 1])):
            given = behind(told, [(FIRST,), (SAFE, 1)])
            self.assertEqual(given[0], given[1])

    def test_flights_that_spoil_what_follows_are_passed_over(self):
        self.assertEqual(behind(SPOILT, [(SAFE, 1), (SAFE, 2)]), [[2, 0, 1], [2, 0, 2]])
        self.assertEqual(behind(THREE, [(SAFE, 1), (SAFE, 2), (SAFE, 3)]),
                         [[4, 0, 2, 3, 1], [4, 0, 2, 3, 4], [4, 1, 0, 3, 4]])

    def test_all_free(self):
        for k in range(1, 8):
            self.assertEqual(last((BEGIN, 7, 7), (SAFE, k)), [7, 0, 1, 2, 3, 4, 5, 6])
        self.assertEqual(last((BEGIN, 1, 1), (SAFE, 1)), [1, 0])

    def test_costs_are_not_asked(self):
        self.assertEqual(last(*SPOILT, (COST, 0, 0, 1000), (COST, 1, 2, 1000), (SAFE, 2)), [2, 0, 2])

    def test_due_crews_alone(self):
        told = [*only(3, [0, 2], [0, 1, 2], [1, 2]), due(2, 0)]
        self.assertEqual(behind(told, [(SAFE, 2), due(1), (SAFE, 3)]), [[2, 0, 2], [1], [1, 0]])

    def test_what_was_sailed_counts(self):
        self.assertEqual(behind(SPOILT, [sail(0, 2), (SAFE, 1), (SAFE, 2), (BACK,), (SAFE, 2)]),
                         [[1], [2, 2, 1], [-7], [0], [2, 0, 2]])

    def test_how_many_have_been_sailed_is_not_asked(self):
        told = [*SPOILT, *empty_flights(20)]
        self.assertEqual(behind(told, [(SAFE, 20), due(0, 1), (SAFE, 2)]), [[0], [2], [2, 0, 2]])

    def test_nobody_due(self):
        told = [(BEGIN, 2, 2), *all_out(2), due()]
        self.assertEqual(behind(told, [(SAFE, k) for k in range(1, 21)]), [[0]] * 20)

    def test_so_many_cannot_be_sailed(self):
        for told, fit in ((SPOILT, 2), (THREE, 3), (ONCE, 1), ([(BEGIN, 3, 2)], 0), ([(BEGIN, 3, 3), *all_out(3)], 0),
                          ([(BEGIN, 7, 7)], 7)):
            for k in (fit + 1, 20):
                self.refused(-7, SAFE, k, before=told)

    def test_out_of_range_is_looked_at_first(self):
        for k in (0, -1, 21, LOWEST, HIGHEST):
            with self.subTest(k=k):
                self.refused(-2, SAFE, k)
                self.refused(-2, SAFE, k, before=[(BEGIN, 3, 2)])

    def test_changes_nothing(self):
        self.unchanged(SPOILT, (SAFE, 2))
        self.unchanged(TOLD, (SAFE, 1))


class Plan(LineTest):
    def test_before_begin_empty_flights(self):
        self.assertEqual(ask((PLAN, 1), (PLAN, 20), (PLAN, 0), (PLAN, 21)), [[1, 0], [20] + [0] * 20, [-2], [-2]])

    def test_each_flight_is_the_first_safe_one(self):
        self.assertEqual(last(*SPOILT, (PLAN, 1)), [1, 2, 0, 1])
        self.assertEqual(last(*SPOILT, (PLAN, 2)), [2, 2, 0, 2, 2, 2, 1])
        self.assertEqual(last(*THREE, (PLAN, 1)), [1, 4, 0, 2, 3, 1])
        self.assertEqual(last(*THREE, (PLAN, 2)), [2, 4, 0, 2, 3, 4, 4, 2, 0, 4, 1])
        self.assertEqual(last(*THREE, (PLAN, 3)), [3, 4, 1, 0, 3, 4, 4, 2, 4, 0, 1, 4, 3, 2, 4, 0])

    def test_sailed_flight_by_flight(self):
        for told in (SPOILT, THREE, ONCE, [(BEGIN, 7, 7)], [(BEGIN, 3, 6), (REFUSE, 1, 0), (OUT, 2, 1)]):
            fit = last(*told, (MOST,))[0]
            for k in range(1, fit + 1):
                flights = apart(last(*told, (PLAN, k))[1:])
                self.assertEqual(len(flights), k)
                for done in range(k):
                    sailed = [sail(*flight) for flight in flights[:done]]
                    self.assertEqual(last(*told, *sailed, (SAFE, k - done)), [len(flights[done]), *flights[done]])

    def test_one_and_seven(self):
        self.assertEqual(last((BEGIN, 1, 1), (PLAN, 1)), [1, 1, 0])
        self.assertEqual(last((BEGIN, 1, 7), (PLAN, 7)), [7, 1, 0, 1, 1, 1, 2, 1, 3, 1, 4, 1, 5, 1, 6])
        given = apart(last((BEGIN, 7, 7), (PLAN, 7))[1:])
        self.assertEqual(given[0], [0, 1, 2, 3, 4, 5, 6])
        for line in [*given, *zip(*given)]:
            self.assertEqual(sorted(line), [0, 1, 2, 3, 4, 5, 6])

    def test_due_crews_alone(self):
        self.assertEqual(last(*only(3, [0, 2], [0, 1, 2], [1, 2]), due(2, 0), (PLAN, 2)), [2, 2, 0, 2, 2, 2, 1])

    def test_what_was_sailed_counts(self):
        self.assertEqual(behind(SPOILT, [sail(0, 2), (PLAN, 1), (PLAN, 2), (BACK,), (PLAN, 2)]),
                         [[1], [1, 2, 2, 1], [-7], [0], [2, 2, 0, 2, 2, 2, 1]])

    def test_how_many_have_been_sailed_is_not_asked(self):
        told = [*SPOILT, *empty_flights(20)]
        self.assertEqual(behind(told, [(PLAN, 3), due(0, 1), (PLAN, 2)]), [[3, 0, 0, 0], [2], [2, 2, 0, 2, 2, 2, 1]])

    def test_so_many_cannot_be_sailed(self):
        for told, fit in ((SPOILT, 2), (THREE, 3), (ONCE, 1), ([(BEGIN, 3, 2)], 0), ([(BEGIN, 3, 3), *all_out(3)], 0),
                          ([(BEGIN, 7, 7)], 7)):
            for k in (fit + 1, 20):
                self.refused(-7, PLAN, k, before=told)

    def test_out_of_range_is_looked_at_first(self):
        for k in (0, -1, 21, LOWEST, HIGHEST):
            with self.subTest(k=k):
                self.refused(-2, PLAN, k)
                self.refused(-2, PLAN, k, before=[(BEGIN, 3, 2)])

    def test_changes_nothing(self):
        self.unchanged(SPOILT, (PLAN, 2))
        self.unchanged(TOLD, (PLAN, 1))
        self.unchanged([(BEGIN, 3, 3)], (PLAN, 3))


if __name__ == "__main__":
    unittest.main()
