"""The calls about prices: prices and check (11 and 12)."""

import unittest

from lines import (BACK, BEGIN, BEST, COST, HIGHEST, LET, LOWEST, OUT, PRICES, REFUSE, TOLD, LineTest,
                   all_out, ask, behind, check, costs, due, last, only, sail)


class Prices(LineTest):
    def test_before_begin_there_are_none(self):
        self.assertEqual(ask((PRICES,)), [[0, 0]])

    def test_one_crew_and_one_boat(self):
        self.assertEqual(last((BEGIN, 1, 1), (PRICES,)), [1, 0, 1, 0])
        self.assertEqual(last((BEGIN, 1, 1), (COST, 0, 0, 1000), (PRICES,)), [1, 0, 1, 1000])

    def test_a_boat_that_two_crews_want(self):
        # The cheapest flight costs 5 + 2; with a second boat 0 it would cost 1 + 2.
        self.assertEqual(last((BEGIN, 2, 2), *costs((1, 5), (2, 9)), (PRICES,)), [2, 4, 0, 2, 5, 6])

    def test_an_added_boat_helps_by_a_chain_of_crews(self):
        # With a second boat 1 crew 1 takes it and leaves boat 0 to crew 0, which had the dear boat 3.
        told = [*only(4, [0, 3], [0, 1], [1]), (COST, 0, 3, 30)]
        self.assertEqual(last(*told, (BEST,)), [30, 3, 3, 0, 1])
        self.assertEqual(last(*told, (PRICES,)), [4, 30, 30, 0, 0, 3, 30, 30, 30])
        self.assertEqual(last(*told, (COST, 1, 1, 12), (PRICES,)), [4, 30, 18, 0, 0, 3, 30, 30, 18])

    def test_a_chain_of_seven(self):
        # Each crew would save 10 on the next one's boat, but for the last crew, to which boat 0 is dear.
        told = only(7, [0, 1], [1, 2], [2, 3], [3, 4], [4, 5], [5, 6], [6, 0])
        told += [(COST, crew, crew, 10) for crew in range(7)] + [(COST, 6, 0, 100)]
        self.assertEqual(last(*told, (BEST,)), [70, 7, 0, 1, 2, 3, 4, 5, 6])
        self.assertEqual(last(*told, (PRICES,)), [7, 0, 10, 20, 30, 40, 50, 60, 7, 10, 20, 30, 40, 50, 60, 70])

    def test_seven_crews_and_boats(self):
        self.assertEqual(last((BEGIN, 7, 7), (PRICES,)), [7] + [0] * 7 + [7] + [0] * 7)
        self.assertEqual(last((BEGIN, 7, 7), *costs(*[[1000] * 7] * 7), (PRICES,)), [7] + [0] * 7 + [7] + [1000] * 7)
        told = [(BEGIN, 7, 7), *costs(*[[0] + [1000] * 6] * 7)]
        self.assertEqual(last(*told, (PRICES,)), [7, 1000] + [0] * 6 + [7] + [1000] * 7)

    def test_a_boat_that_is_out_has_none(self):
        told = [(BEGIN, 2, 3), *costs((0, 8, 9), (0, 7, 9))]
        self.assertEqual(last(*told, (PRICES,)), [3, 7, 0, 0, 2, 7, 7])
        self.assertEqual(last(*told, (OUT, 0, 1), (PRICES,)), [3, 0, 1, 0, 2, 9, 8])
        self.assertEqual(last(*told, (OUT, 1, 1), (PRICES,)), [3, 9, 0, 0, 2, 9, 9])

    def test_a_boat_that_no_due_crew_may_have(self):
        self.assertEqual(last(*only(2, [1], [0, 1]), due(0), (PRICES,)), [2, 0, 0, 1, 0])

    def test_whoever_may_have_the_one_may_have_the_other(self):
        # Crew 0 can't have boat 0, so a second one saves nothing.
        told = [(BEGIN, 2, 2), *costs((0, 50), (0, 80))]
        self.assertEqual(last(*told, (PRICES,)), [2, 50, 0, 2, 50, 50])
        self.assertEqual(last(*told, (REFUSE, 0, 0), (PRICES,)), [2, 0, 0, 2, 50, 0])

    def test_due_crews_alone(self):
        told = [(BEGIN, 3, 3), *costs((1, 5, 9), (2, 9, 9), (0, 0, 0))]
        self.assertEqual(last(*told, due(1), (PRICES,)), [3, 0, 0, 0, 1, 2])
        self.assertEqual(last(*told, due(1, 0), (PRICES,)), [3, 4, 0, 0, 2, 5, 6])

    def test_nobody_due(self):
        self.assertEqual(last((BEGIN, 2, 3), *costs((5, 5, 5)), due(), (PRICES,)), [3, 0, 0, 0, 0])
        self.assertEqual(last((BEGIN, 2, 3), due(), *all_out(3), (PRICES,)), [3, 0, 0, 0, 0])

    def test_they_prove_the_cheapest_flight(self):
        told = [(BEGIN, 4, 5), *costs((9, 4, 7, 2, 8), (3, 4, 9, 2, 6), (8, 8, 5, 2, 7), (4, 6, 6, 1, 9)), (OUT, 4, 1)]
        given = behind(told, [(BEST,), (PRICES,)])
        self.assertEqual(given[1][0], 5)
        self.assertEqual(last(*told, check(*given[1][1:6])), [1, given[0][0]])

    def test_what_was_sailed_counts(self):
        told = [(BEGIN, 2, 3), *costs((0, 3, 8), (0, 4, 9))]
        given = behind(told, [(PRICES,), sail(1, 0), (PRICES,), (BACK,), (PRICES,)])
        self.assertEqual(given, [[3, 3, 0, 0, 2, 3, 3], [1], [3, 0, 0, 0, 2, 0, 4], [0], [3, 3, 0, 0, 2, 3, 3]])

    def test_no_flight(self):
        self.refused(-7, PRICES, before=[(BEGIN, 3, 2)])
        self.refused(-7, PRICES, before=[(BEGIN, 3, 3), *all_out(3)])
        self.refused(-7, PRICES, before=only(3, [0], [0], [1, 2]))
        self.refused(-7, PRICES, before=[(BEGIN, 1, 1), sail(0)])

    def test_changes_nothing(self):
        self.unchanged(TOLD, (PRICES,))
        self.unchanged([(BEGIN, 3, 3), *costs((1, 5, 9), (2, 9, 9), (0, 0, 0))], (PRICES,))


class Check(LineTest):
    def test_before_begin(self):
        self.assertEqual(ask(check(), check(0)), [[1, 0], [-3]])

    def test_without_prices_the_least_costs_together(self):
        told = [(BEGIN, 3, 3), *costs((4, 1, 3), (2, 7, 5), (3, 2, 2))]
        self.assertEqual(last(*told, check(0, 0, 0)), [1, 5])

    def test_fares_less_prices(self):
        told = [(BEGIN, 2, 2), *costs((1, 5), (2, 9))]
        self.assertEqual(last(*told, check(4, 0)), [1, 7])
        self.assertEqual(last(*told, check(3, 0)), [1, 6])
        self.assertEqual(last(*told, check(0, 3)), [1, 0])
        self.assertEqual(last(*told, check(6, 1)), [1, 7])

    def test_edges_of_prices(self):
        self.assertEqual(last((BEGIN, 1, 1), (COST, 0, 0, 7), check(1000000)), [1, 7])
        self.assertEqual(last((BEGIN, 1, 2), check(1000000, 0)), [1, -1000000])
        self.assertEqual(last((BEGIN, 1, 7), check(*[1000000] * 7)), [1, -6000000])
        self.assertEqual(last((BEGIN, 7, 7), check(*[1000000] * 7)), [1, 0])

    def test_below_nought(self):
        self.assertEqual(last((BEGIN, 1, 3), check(1, 1, 1)), [1, -2])
        self.assertEqual(last((BEGIN, 2, 2), due(), check(5, 6)), [1, -11])

    def test_more_than_any_flight_where_there_is_none(self):
        self.assertEqual(last((BEGIN, 3, 1), check(10)), [1, 20])

    def test_a_boat_that_is_out_is_not_charged(self):
        told = [(BEGIN, 1, 2), *costs((0, 8)), (OUT, 0, 1)]
        self.assertEqual(last(*told, check(100, 1)), [1, 8])
        self.assertEqual(last(*told, check(0, 0)), [1, 8])

    def test_a_boat_that_nobody_may_have_is_charged(self):
        self.assertEqual(last(*only(2, [0], [0]), check(3, 40)), [1, 3 + 3 - 3 - 40])

    def test_due_crews_alone(self):
        told = [(BEGIN, 3, 2), *costs((1, 1), (20, 30), (0, 0)), (REFUSE, 2, 0), (REFUSE, 2, 1)]
        self.assertEqual(last(*told, due(0, 1), check(2, 0)), [1, 1 + 22 - 2])
        self.assertEqual(last(*told, due(1), check(2, 0)), [1, 20])

    def test_prices_that_prove_nothing(self):
        self.assertEqual(last(*only(2, [0, 1], []), check(0, 0)), [0])
        self.assertEqual(last((BEGIN, 3, 3), *all_out(3), check(1, 2, 3)), [0])
        self.assertEqual(last((BEGIN, 1, 1), sail(0), check(0)), [0])
        self.assertEqual(last((BEGIN, 2, 2), due(), *all_out(2), check(1, 2)), [1, 0])

    def test_what_was_sailed_counts(self):
        told = [(BEGIN, 1, 3), *costs((1, 10, 100))]
        given = behind(told, [sail(0), check(0, 0, 0), sail(1), check(0, 0, 0), check(7, 0, 0), (BACK,),
                              check(0, 0, 0)])
        self.assertEqual(given, [[1], [1, 10], [2], [1, 100], [1, 93], [1], [1, 10]])

    def test_not_as_many_as_boats(self):
        self.refused(-3, *check())
        self.refused(-3, *check(0, 0))
        self.refused(-3, *check(0, 0, 0, 0))
        self.refused(-3, *check(*[0] * 1000))
        self.assertEqual(last((BEGIN, 2, 3), check(0, 0)), [-3])
        self.assertEqual(last((BEGIN, 3, 2), check(0, 0)), [1, 0])

    def test_a_price_out_of_range(self):
        for price in (-1, 1000001, LOWEST, HIGHEST):
            with self.subTest(price=price):
                self.refused(-3, *check(price, 0, 0))
                self.refused(-3, *check(0, price, 0))
                self.refused(-3, *check(0, 0, price))

    def test_a_wrong_row_is_looked_at_ahead_of_what_it_proves(self):
        told = [*only(2, [0, 1], []), (OUT, 0, 1)]
        self.assertEqual(behind(told, [check(0), check(-1, 0), check(1000001, 0), check(0, 0)]),
                         [[-3], [-3], [-3], [0]])

    def test_changes_nothing(self):
        self.unchanged(TOLD, check(1, 2, 3))
        self.unchanged([*TOLD, (OUT, 0, 1)], check(1, 2, 3))
        self.unchanged([*TOLD, (LET, 0, 0)], check(1000000, 0, 0))


if __name__ == "__main__":
    unittest.main()
