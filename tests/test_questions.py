"""The calls that ask: may, size, blocked, first, best (6 to 10)."""

import unittest

from lines import (BEGIN, BEST, BLOCKED, COST, FIRST, HIGHEST, LET, LOWEST, MAY, OUT, REFUSE, SIZE,
                   all_out, ask, behind, costs, due, last, only, probe)


class May(unittest.TestCase):
    def test_refused_out_or_neither(self):
        told = [(BEGIN, 2, 3), (REFUSE, 0, 0), (OUT, 1, 1), (REFUSE, 1, 1)]
        pairs = [(MAY, crew, boat) for crew in range(2) for boat in range(3)]
        self.assertEqual(behind(told, pairs), [[0], [0], [1], [1], [0], [1]])

    def test_crews_that_are_not_due_too(self):
        self.assertEqual(ask((BEGIN, 2, 1), due(), (REFUSE, 1, 0), (MAY, 0, 0), (MAY, 1, 0))[-2:], [[1], [0]])

    def test_refusals(self):
        for crew in (2, -1, LOWEST, HIGHEST):
            self.assertEqual(last((BEGIN, 2, 3), (MAY, crew, 0)), [-1])
            self.assertEqual(last((BEGIN, 2, 3), (MAY, crew, 3)), [-1])
        for boat in (3, -1, LOWEST, HIGHEST):
            self.assertEqual(last((BEGIN, 2, 3), (MAY, 1, boat)), [-4])
        self.assertEqual(last((BEGIN, 2, 3), (MAY, 1, 2)), [1])
        self.assertEqual(last((BEGIN, 3, 2), (MAY, 2, 1)), [1])


class Size(unittest.TestCase):
    def test_the_fewer_of_crews_and_boats(self):
        for crews in range(1, 8):
            for boats in range(1, 8):
                self.assertEqual(last((BEGIN, crews, boats), (SIZE,)), [min(crews, boats)])

    def test_two_crews_for_one_boat(self):
        self.assertEqual(last(*only(3, [0], [0], [1, 2]), (SIZE,)), [2])

    def test_two_lacks_in_one_set(self):
        self.assertEqual(last(*only(4, [0], [0], [1], [1], [2, 3]), (SIZE,)), [3])

    def test_a_crew_must_move_for_another(self):
        self.assertEqual(last(*only(2, [0, 1], [0]), (SIZE,)), [2])

    def test_nobody_due_all_boats_out(self):
        self.assertEqual(last((BEGIN, 3, 3), due(), (SIZE,)), [0])
        self.assertEqual(last((BEGIN, 3, 3), *all_out(3), (SIZE,)), [0])
        self.assertEqual(last((BEGIN, 3, 3), due(), *all_out(3), (SIZE,)), [0])

    def test_due_crews_alone_count(self):
        self.assertEqual(ask(*only(2, [0], [0], [1]), due(0), (SIZE,), due(0, 1), (SIZE,), due(0, 2), (SIZE,))[-5:],
                         [[1], [2], [1], [2], [2]])

    def test_changes_nothing(self):
        told = only(3, [0], [0], [1, 2])
        self.assertEqual(behind(told + [(SIZE,)], probe(3, 3)), behind(told, probe(3, 3)))


class Blocked(unittest.TestCase):
    def test_nobody_where_all_can_sail(self):
        self.assertEqual(last((BEGIN, 3, 3), (BLOCKED,)), [0, 0])
        self.assertEqual(last((BEGIN, 1, 1), (BLOCKED,)), [0, 0])
        self.assertEqual(last((BEGIN, 3, 7), (BLOCKED,)), [0, 0])

    def test_a_set_that_is_just_full_does_not_block(self):
        self.assertEqual(last(*only(3, [0, 1], [0, 1], [0, 2]), (BLOCKED,)), [0, 0])

    def test_two_crews_for_one_boat(self):
        self.assertEqual(last(*only(4, [0, 1], [2], [0, 3], [2]), (BLOCKED,)), [2, 1, 3, 1, 2])

    def test_a_crew_without_a_boat(self):
        self.assertEqual(last(*only(2, [0], [], [1]), (BLOCKED,)), [1, 1, 0])

    def test_more_due_crews_than_boats(self):
        self.assertEqual(last((BEGIN, 7, 3), (BLOCKED,)), [7, 0, 1, 2, 3, 4, 5, 6, 3, 0, 1, 2])
        self.assertEqual(last((BEGIN, 2, 1), (BLOCKED,)), [2, 0, 1, 1, 0])

    def test_the_worst_of_two_lacks(self):
        # Crews 0 and 1 share boat 0; crews 2, 3 and 4 share boat 1: together they lack three.
        self.assertEqual(last(*only(4, [0], [0], [1], [1], [1], [2, 3]), (BLOCKED,)),
                         [5, 0, 1, 2, 3, 4, 2, 0, 1])

    def test_sets_that_lack_equally_much(self):
        # {0, 1}, {0, 1, 2} and {0, 1, 2, 3} lack one each: what is in every one of them is {0, 1}.
        self.assertEqual(last(*only(4, [0], [0], [0, 1], [1, 2]), (BLOCKED,)), [2, 0, 1, 1, 0])
        # {1, 2} with boat 3 lacks one, and so does all: crew 0 is in one of the two.
        self.assertEqual(last(*only(4, [0, 3], [3], [3]), (BLOCKED,)), [2, 1, 2, 1, 3])

    def test_boats_by_rising_numbers(self):
        self.assertEqual(last(*only(4, [3], [3, 1], [1], [0]), (BLOCKED,)), [3, 0, 1, 2, 2, 1, 3])

    def test_boats_that_are_out_do_not_count(self):
        self.assertEqual(last((BEGIN, 2, 3), (OUT, 0, 1), (OUT, 2, 1), (BLOCKED,)), [2, 0, 1, 1, 1])
        self.assertEqual(last((BEGIN, 3, 3), *all_out(3), (BLOCKED,)), [3, 0, 1, 2, 0])

    def test_due_crews_alone(self):
        told = only(2, [0], [0], [0])
        self.assertEqual(behind(told, [due(2, 1), (BLOCKED,)])[1], [2, 1, 2, 1, 0])
        self.assertEqual(behind(told, [due(1), (BLOCKED,)])[1], [0, 0])
        self.assertEqual(behind(told, [due(), (BLOCKED,)])[1], [0, 0])

    def test_changes_nothing(self):
        told = only(3, [0], [0], [1, 2])
        self.assertEqual(behind(told + [(BLOCKED,)], probe(3, 3)), behind(told, probe(3, 3)))


class First(unittest.TestCase):
    def test_all_free(self):
        for crews in range(1, 8):
            self.assertEqual(last((BEGIN, crews, 7), (FIRST,)), [crews, *range(crews)])

    def test_the_first_crew_has_the_least_boat_that_leaves_a_flight(self):
        self.assertEqual(last(*only(3, [0, 1, 2], [0], [0, 1]), (FIRST,)), [3, 2, 0, 1])
        self.assertEqual(last(*only(3, [1, 2], [0, 1, 2], [0, 1, 2]), (FIRST,)), [3, 1, 0, 2])

    def test_the_first_crew_counts_ahead_of_the_second(self):
        self.assertEqual(last(*only(4, [1, 3], [0, 1, 2], [0, 2]), (FIRST,)), [3, 1, 0, 2])
        self.assertEqual(last(*only(4, [1, 3], [1, 2]), (FIRST,)), [2, 1, 2])

    def test_costs_are_not_asked(self):
        self.assertEqual(last((BEGIN, 2, 2), *costs((1000, 0), (0, 1000)), (FIRST,)), [2, 0, 1])

    def test_boats_that_are_out_are_passed_over(self):
        self.assertEqual(last((BEGIN, 2, 4), (OUT, 0, 1), (OUT, 2, 1), (FIRST,)), [2, 1, 3])

    def test_due_crews_alone(self):
        self.assertEqual(last((BEGIN, 7, 2), due(6, 3), (REFUSE, 3, 0), (FIRST,)), [2, 1, 0])

    def test_nobody_due_is_one_empty_flight(self):
        self.assertEqual(last((BEGIN, 3, 3), due(), (FIRST,)), [0])
        self.assertEqual(last((BEGIN, 3, 3), due(), *all_out(3), (FIRST,)), [0])

    def test_no_flight(self):
        self.assertEqual(last((BEGIN, 2, 1), (FIRST,)), [-7])
        self.assertEqual(last((BEGIN, 7, 6), (FIRST,)), [-7])
        self.assertEqual(last((BEGIN, 1, 1), (REFUSE, 0, 0), (FIRST,)), [-7])
        self.assertEqual(last((BEGIN, 3, 3), *all_out(3), (FIRST,)), [-7])
        self.assertEqual(last(*only(3, [0], [0], [1, 2]), (FIRST,)), [-7])
        self.assertEqual(last(*only(3, [1, 2], [], [1, 2]), (FIRST,)), [-7])

    def test_changes_nothing(self):
        for told in (only(3, [0], [0], [1, 2]), only(3, [0, 1], [0], [1, 2])):
            self.assertEqual(behind(told + [(FIRST,)], probe(3, 3)), behind(told, probe(3, 3)))


class Best(unittest.TestCase):
    def test_the_least_sum_not_the_least_pair(self):
        self.assertEqual(last((BEGIN, 2, 2), *costs((1, 2), (1, 9)), (BEST,)), [3, 2, 1, 0])
        self.assertEqual(last((BEGIN, 3, 3), *costs((4, 1, 3), (2, 0, 5), (3, 2, 2)), (BEST,)), [5, 3, 1, 0, 2])

    def test_of_several_the_first(self):
        self.assertEqual(last((BEGIN, 2, 2), *costs((1, 2), (2, 3)), (BEST,)), [4, 2, 0, 1])
        self.assertEqual(last((BEGIN, 2, 3), *costs((5, 1, 1), (0, 0, 0)), (BEST,)), [1, 2, 1, 0])
        self.assertEqual(last((BEGIN, 3, 4), *costs((1, 1, 1, 1), (9, 0, 0, 9), (0, 9, 9, 0)), (BEST,)),
                         [1, 3, 0, 1, 3])

    def test_of_several_the_first_by_the_first_crew_whatever_follows(self):
        # All three flights cost 10; then (1, 0) and (1, 2) cost 9; then (1, 2) alone does.
        told = [*only(3, [0, 1], [0, 2]), (COST, 0, 0, 4), (COST, 1, 2, 6)]
        self.assertEqual(last(*told, (COST, 0, 1, 4), (COST, 1, 0, 6), (BEST,)), [10, 2, 0, 2])
        self.assertEqual(last(*told, (COST, 0, 1, 3), (COST, 1, 0, 6), (BEST,)), [9, 2, 1, 0])
        self.assertEqual(last(*told, (COST, 0, 1, 3), (COST, 1, 0, 7), (BEST,)), [9, 2, 1, 2])

    def test_the_same_boats_taken_at_one_cost(self):
        # Crews 0 and 1 can trade boats 0 and 1 at one cost, and crew 2 has boat 2 either way.
        self.assertEqual(last((BEGIN, 3, 3), *costs((5, 3, 99), (4, 6, 99), (99, 99, 0)), (BEST,)), [7, 3, 1, 0, 2])
        self.assertEqual(last((BEGIN, 3, 3), *costs((5, 3, 99), (4, 2, 99), (99, 99, 0)), (BEST,)), [7, 3, 0, 1, 2])

    def test_dearest_and_cheapest_pairs(self):
        self.assertEqual(last((BEGIN, 7, 7), *costs(*[[1000] * 7] * 7), (BEST,)), [7000, 7, 0, 1, 2, 3, 4, 5, 6])
        self.assertEqual(last((BEGIN, 2, 2), *costs((1000, 0), (0, 1000)), (BEST,)), [0, 2, 1, 0])
        self.assertEqual(last((BEGIN, 1, 1), (COST, 0, 0, 1000), (BEST,)), [1000, 1, 0])

    def test_a_cheap_pair_that_is_refused_or_out_does_not_count(self):
        told = [(BEGIN, 1, 3), *costs((1, 2, 3))]
        self.assertEqual(behind(told, [(REFUSE, 0, 0), (BEST,), (OUT, 1, 1), (BEST,), (LET, 0, 0), (BEST,)]),
                         [[0], [2, 1, 1], [0], [3, 1, 2], [0], [1, 1, 0]])

    def test_due_crews_alone_cost(self):
        told = [(BEGIN, 3, 3), *costs((10, 20, 30), (1, 2, 3), (100, 200, 300))]
        self.assertEqual(behind(told, [due(1), (BEST,), due(2, 0), (BEST,)]), [[1], [1, 1, 0], [2], [120, 2, 1, 0]])

    def test_seven_crews(self):
        told = [(BEGIN, 7, 7), *costs(*[[10 * abs(6 - crew - boat) for boat in range(7)] for crew in range(7)])]
        self.assertEqual(last(*told, (BEST,)), [0, 7, 6, 5, 4, 3, 2, 1, 0])

    def test_nobody_due_costs_nothing(self):
        self.assertEqual(last((BEGIN, 2, 2), *costs((5, 5), (5, 5)), due(), (BEST,)), [0, 0])
        self.assertEqual(last((BEGIN, 2, 2), due(), *all_out(2), (BEST,)), [0, 0])

    def test_no_flight(self):
        self.assertEqual(last((BEGIN, 2, 1), (BEST,)), [-7])
        self.assertEqual(last((BEGIN, 3, 3), *all_out(3), (BEST,)), [-7])
        self.assertEqual(last((BEGIN, 1, 1), (REFUSE, 0, 0), (BEST,)), [-7])
        self.assertEqual(last(*only(3, [1], [1], [0, 2]), (BEST,)), [-7])

    def test_changes_nothing(self):
        for told in (only(3, [0], [0], [1, 2]), only(3, [0, 1], [0], [1, 2])):
            self.assertEqual(behind(told + [(BEST,)], probe(3, 3)), behind(told, probe(3, 3)))


if __name__ == "__main__":
    unittest.main()
