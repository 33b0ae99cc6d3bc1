"""The calls that change what is held: begin, refuse, let, cost, out, due (0 to 5)."""

import unittest

from lines import (BEGIN, BEST, BLOCKED, COST, FIRST, HIGHEST, LET, LOWEST, MAY, OUT, REFUSE, SIZE, TOLD, LineTest,
                   ask, behind, due, last, probe)


class Begin(LineTest):
    def test_answers_nought_for_all_sizes(self):
        for crews in range(1, 8):
            for boats in range(1, 8):
                self.assertEqual(last((BEGIN, crews, boats)), [0])

    def test_there_are_so_many_crews_and_boats(self):
        for crews in range(1, 8):
            for boats in range(1, 8):
                given = ask((BEGIN, crews, boats), (MAY, crews - 1, boats - 1), (MAY, crews, 0), (MAY, 0, boats),
                            (OUT, boats - 1, 0), (OUT, boats, 0))
                self.assertEqual(given, [[0], [1], [-1], [-4], [0], [-4]])

    def test_nothing_is_refused_and_no_boat_out(self):
        pairs = [(MAY, crew, boat) for crew in range(7) for boat in range(7)]
        self.assertEqual(behind([(BEGIN, 7, 7)], pairs), [[1]] * 49)
        self.assertEqual(last((BEGIN, 2, 2), (LET, 1, 1)), [-5])

    def test_all_crews_are_due_and_costs_are_nought(self):
        self.assertEqual(last((BEGIN, 7, 7), (BEST,)), [0, 7, 0, 1, 2, 3, 4, 5, 6])
        self.assertEqual(last((BEGIN, 1, 1), (BEST,)), [0, 1, 0])
        self.assertEqual(last((BEGIN, 2, 5), (BEST,)), [0, 2, 0, 1])

    def test_begins_anew(self):
        for crews, boats in ((3, 3), (4, 2), (2, 4), (1, 1), (7, 3)):
            probes = probe(crews, boats)
            self.assertEqual(behind(TOLD + [(BEGIN, crews, boats)], probes), behind([(BEGIN, crews, boats)], probes))

    def test_sizes_out_of_range(self):
        for crews, boats in ((0, 3), (3, 0), (8, 3), (3, 8), (0, 0), (8, 8), (-1, 2), (2, -1), (0, 8),
                             (LOWEST, 1), (1, LOWEST), (HIGHEST, 1), (1, HIGHEST)):
            with self.subTest(crews=crews, boats=boats):
                self.refused(-2, BEGIN, crews, boats)

    def test_refused_at_the_beginning_there_are_still_no_crews(self):
        self.assertEqual(ask((BEGIN, 8, 1), (MAY, 0, 0), (OUT, 0, 1), (FIRST,)), [[-2], [-1], [-4], [0]])


class RefuseAndLet(LineTest):
    def test_refuse_is_of_the_one_pair(self):
        given = ask((BEGIN, 2, 2), (REFUSE, 0, 1), (MAY, 0, 0), (MAY, 0, 1), (MAY, 1, 0), (MAY, 1, 1))
        self.assertEqual(given, [[0], [0], [1], [0], [1], [1]])

    def test_let_undoes_refuse_for_the_one_pair(self):
        given = ask((BEGIN, 2, 2), (REFUSE, 0, 1), (REFUSE, 1, 0), (LET, 0, 1),
                    (MAY, 0, 0), (MAY, 0, 1), (MAY, 1, 0), (MAY, 1, 1))
        self.assertEqual(given[3:], [[0], [1], [1], [0], [1]])

    def test_refuse_and_let_by_turns(self):
        given = ask((BEGIN, 1, 1), (LET, 0, 0), (REFUSE, 0, 0), (REFUSE, 0, 0), (LET, 0, 0), (LET, 0, 0),
                    (REFUSE, 0, 0), (MAY, 0, 0))
        self.assertEqual(given, [[0], [-5], [0], [-5], [0], [-5], [0], [0]])

    def test_the_last_crew_and_boat(self):
        self.assertEqual(ask((BEGIN, 7, 7), (REFUSE, 6, 6), (MAY, 6, 6), (LET, 6, 6), (MAY, 6, 6)),
                         [[0], [0], [0], [0], [1]])

    def test_a_boat_that_is_out_is_not_refused(self):
        self.assertEqual(ask((BEGIN, 1, 1), (OUT, 0, 1), (LET, 0, 0), (REFUSE, 0, 0), (OUT, 0, 0), (MAY, 0, 0)),
                         [[0], [0], [-5], [0], [0], [0]])

    def test_let_does_not_bring_a_boat_in(self):
        self.assertEqual(last((BEGIN, 1, 1), (REFUSE, 0, 0), (OUT, 0, 1), (LET, 0, 0), (MAY, 0, 0)), [0])

    def test_crews_that_are_not_due_can_be_refused(self):
        self.assertEqual(ask((BEGIN, 2, 2), due(0), (REFUSE, 1, 0), (REFUSE, 1, 0)), [[0], [1], [0], [-5]])

    def test_already_so(self):
        self.refused(-5, REFUSE, 0, 0)
        self.refused(-5, REFUSE, 2, 1)
        self.refused(-5, LET, 0, 1)
        self.refused(-5, LET, 2, 2)

    def test_no_such_crew_is_looked_at_first(self):
        for call in (REFUSE, LET):
            for crew in (3, -1, 7, LOWEST, HIGHEST):
                for boat in (0, 3, -1):
                    with self.subTest(call=call, crew=crew, boat=boat):
                        self.refused(-1, call, crew, boat)

    def test_no_such_boat(self):
        for call in (REFUSE, LET):
            for boat in (3, -1, 7, LOWEST, HIGHEST):
                with self.subTest(call=call, boat=boat):
                    self.refused(-4, call, 0, boat)
                    self.refused(-4, call, 2, boat)


class Cost(LineTest):
    def test_is_of_the_one_pair(self):
        told = [(BEGIN, 2, 2), (COST, 0, 1, 9)]
        for crew, boat, cost in ((0, 0, 0), (0, 1, 9), (1, 0, 0), (1, 1, 0)):
            self.assertEqual(last(*told, due(crew), (OUT, 1 - boat, 1), (BEST,)), [cost, 1, boat])

    def test_the_last_cost_told_holds(self):
        self.assertEqual(ask((BEGIN, 1, 1), (COST, 0, 0, 9), (COST, 0, 0, 4), (BEST,), (COST, 0, 0, 0), (BEST,)),
                         [[0], [0], [0], [4, 1, 0], [0], [0, 1, 0]])

    def test_edges(self):
        for cost in (0, 1, 999, 1000):
            self.assertEqual(ask((BEGIN, 1, 1), (COST, 0, 0, cost), (BEST,)), [[0], [0], [cost, 1, 0]])

    def test_stays_while_the_pair_is_refused_or_the_boat_out(self):
        given = ask((BEGIN, 1, 1), (REFUSE, 0, 0), (OUT, 0, 1), (COST, 0, 0, 8), (LET, 0, 0), (OUT, 0, 0), (BEST,))
        self.assertEqual(given[3:], [[0], [0], [0], [8, 1, 0]])

    def test_stays_while_the_crew_is_not_due(self):
        self.assertEqual(last((BEGIN, 1, 1), due(), (COST, 0, 0, 8), due(0), (BEST,)), [8, 1, 0])

    def test_out_of_range(self):
        for cost in (-1, 1001, LOWEST, HIGHEST):
            with self.subTest(cost=cost):
                self.refused(-2, COST, 0, 1, cost)

    def test_no_such_crew_is_looked_at_first_and_the_number_last(self):
        for crew in (3, -1, LOWEST, HIGHEST):
            self.refused(-1, COST, crew, 0, 3)
            self.refused(-1, COST, crew, 3, 3)
            self.refused(-1, COST, crew, 0, -1)
            self.refused(-1, COST, crew, 3, 1001)
        for boat in (3, -1, LOWEST, HIGHEST):
            self.refused(-4, COST, 0, boat, 3)
            self.refused(-4, COST, 0, boat, 1001)
            self.refused(-4, COST, 2, boat, -1)


class Out(LineTest):
    def test_is_of_the_one_boat_and_of_all_crews(self):
        given = ask((BEGIN, 2, 2), (OUT, 1, 1), (MAY, 0, 0), (MAY, 0, 1), (MAY, 1, 0), (MAY, 1, 1))
        self.assertEqual(given, [[0], [0], [1], [0], [1], [0]])

    def test_also_if_it_is_so_already(self):
        given = ask((BEGIN, 1, 1), (OUT, 0, 0), (MAY, 0, 0), (OUT, 0, 1), (OUT, 0, 1), (MAY, 0, 0),
                    (OUT, 0, 0), (OUT, 0, 0), (MAY, 0, 0))
        self.assertEqual(given, [[0], [0], [1], [0], [0], [0], [0], [0], [1]])

    def test_in_again_keeps_refusals(self):
        self.assertEqual(last((BEGIN, 1, 2), (REFUSE, 0, 1), (OUT, 1, 1), (OUT, 1, 0), (MAY, 0, 1)), [0])

    def test_the_last_boat(self):
        self.assertEqual(ask((BEGIN, 1, 7), (OUT, 6, 1), (MAY, 0, 6), (OUT, 7, 1)), [[0], [0], [0], [-4]])

    def test_more_boats_than_crews(self):
        self.assertEqual(ask((BEGIN, 1, 3), (OUT, 2, 1), (MAY, 0, 2)), [[0], [0], [0]])

    def test_neither_nought_nor_one(self):
        for v in (2, -1, LOWEST, HIGHEST):
            with self.subTest(v=v):
                self.refused(-2, OUT, 0, v)
                self.refused(-2, OUT, 2, v)

    def test_no_such_boat_is_looked_at_first(self):
        for boat in (3, -1, LOWEST, HIGHEST):
            for v in (0, 1, 2, -1):
                with self.subTest(boat=boat, v=v):
                    self.refused(-4, OUT, boat, v)


class Due(LineTest):
    def test_answers_how_many(self):
        for crews in range(1, 8):
            self.assertEqual(ask((BEGIN, 7, 7), due(*range(crews))), [[0], [crews]])

    def test_takes_the_place_of_who_was_due(self):
        given = ask((BEGIN, 3, 3), due(0, 1), (FIRST,), due(2), (FIRST,), due(0, 1, 2), (FIRST,))
        self.assertEqual(given, [[0], [2], [2, 0, 1], [1], [1, 0], [3], [3, 0, 1, 2]])

    def test_nobody(self):
        self.assertEqual(ask((BEGIN, 3, 3), due(), (FIRST,), (BEST,), (SIZE,), (BLOCKED,)),
                         [[0], [0], [0], [0, 0], [0], [0, 0]])

    def test_by_their_numbers_not_as_told(self):
        told = [(BEGIN, 3, 3), (REFUSE, 0, 0), (COST, 0, 1, 30), (COST, 2, 0, 4)]
        for row in ((2, 0), (0, 2)):
            self.assertEqual(behind(told, [due(*row), (FIRST,), (BEST,)]), [[2], [2, 1, 0], [0, 2, 2, 1]])

    def test_does_not_change_who_may_have_what(self):
        self.assertEqual(ask((BEGIN, 2, 2), due(0), (MAY, 1, 1)), [[0], [1], [1]])

    def test_no_such_crew(self):
        for crew in (3, -1, 7, LOWEST, HIGHEST):
            with self.subTest(crew=crew):
                self.refused(-1, *due(crew))
                self.refused(-1, *due(0, crew))
                self.refused(-1, *due(crew, 0))

    def test_one_there_twice(self):
        self.refused(-5, *due(2, 2))
        self.refused(-5, *due(2, 0, 2))
        self.refused(-5, *due(0, 1, 2, 0))
        self.refused(-5, *due(*[0, 1, 2, 1] * 250))

    def test_no_such_crew_is_looked_at_ahead_of_one_there_twice(self):
        self.refused(-1, *due(0, 0, 3))
        self.refused(-1, *due(3, 3))
        self.refused(-1, *due(-1, -1))
        self.refused(-1, *due(*[0] * 999, 3))


class BeforeBegin(unittest.TestCase):
    def test_there_are_no_crews_and_boats(self):
        given = ask((REFUSE, 0, 0), (LET, 0, 0), (COST, 0, 0, 1), (COST, 0, 0, -1), (OUT, 0, 1), (OUT, 0, 2),
                    due(0), due(0, 0), (MAY, 0, 0), (REFUSE, -1, -1), (OUT, -1, 0))
        self.assertEqual(given, [[-1], [-1], [-1], [-1], [-4], [-4], [-1], [-1], [-1], [-1], [-4]])

    def test_nobody_is_due(self):
        self.assertEqual(ask(due(), (SIZE,), (BLOCKED,), (FIRST,), (BEST,)), [[0], [0], [0, 0], [0], [0, 0]])
        self.assertEqual(ask((SIZE,)), [[0]])
        self.assertEqual(ask((BLOCKED,)), [[0, 0]])
        self.assertEqual(ask((FIRST,)), [[0]])
        self.assertEqual(ask((BEST,)), [[0, 0]])


if __name__ == "__main__":
    unittest.main()
