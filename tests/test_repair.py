"""The call repair (20)."""

import unittest

from lines import (BACK, BEGIN, COST, HIGHEST, LOWEST, OUT, REFUSE, TOLD, LineTest,
                   all_out, ask, behind, due, last, only, repair, sail)


class Repair(LineTest):
    def test_before_begin_an_empty_flight(self):
        self.assertEqual(ask(repair(), repair(0)), [[0, 0], [-3]])

    def test_a_flight_stays_as_it_is(self):
        self.assertEqual(last((BEGIN, 3, 4), repair(3, 0, 2)), [0, 3, 3, 0, 2])
        self.assertEqual(last((BEGIN, 1, 1), repair(0)), [0, 1, 0])
        self.assertEqual(last((BEGIN, 7, 7), repair(6, 5, 4, 3, 2, 1, 0)), [0, 7, 6, 5, 4, 3, 2, 1, 0])

    def test_a_boat_broke(self):
        told = [(BEGIN, 3, 4), (OUT, 1, 1)]
        self.assertEqual(last(*told, repair(0, 1, 2)), [1, 3, 0, 3, 2])
        self.assertEqual(last(*told, (REFUSE, 1, 3), repair(0, 1, 2)), [2, 3, 0, 2, 3])

    def test_the_fewest_moved_not_the_first_flight(self):
        self.assertEqual(last(*only(4, [1, 2], [0, 1, 3], [0, 3]), repair(2, 3, 3)), [1, 3, 2, 0, 3])
        self.assertEqual(last(*only(4, [1, 2], [1, 3], [0, 3]), repair(2, 1, 1)), [1, 3, 2, 1, 0])

    def test_of_several_that_move_equally_few_the_first(self):
        self.assertEqual(last((BEGIN, 2, 3), repair(0, 0)), [1, 2, 0, 1])
        self.assertEqual(last((BEGIN, 2, 3), repair(2, 2)), [1, 2, 0, 2])
        self.assertEqual(last((BEGIN, 2, 3), (REFUSE, 0, 0), (REFUSE, 0, 1), repair(0, 0)), [1, 2, 2, 0])
        self.assertEqual(last((BEGIN, 3, 5), (OUT, 4, 1), repair(4, 3, 4)), [2, 3, 0, 3, 1])

    def test_one_boat_for_all(self):
        self.assertEqual(last((BEGIN, 7, 7), repair(*[0] * 7)), [6, 7, 0, 1, 2, 3, 4, 5, 6])
        self.assertEqual(last((BEGIN, 7, 7), repair(*[6] * 7)), [6, 7, 0, 1, 2, 3, 4, 5, 6])
        self.assertEqual(last((BEGIN, 3, 3), repair(1, 1, 1)), [2, 3, 0, 1, 2])

    def test_boats_that_a_crew_may_not_have(self):
        self.assertEqual(last(*only(3, [1, 2], [0, 2]), repair(0, 1)), [2, 2, 1, 0])
        self.assertEqual(last((BEGIN, 2, 2), (REFUSE, 0, 0), repair(0, 1)), [2, 2, 1, 0])
        self.assertEqual(last((BEGIN, 2, 4), (OUT, 0, 1), (OUT, 1, 1), repair(0, 1)), [2, 2, 2, 3])
        self.assertEqual(last((BEGIN, 2, 3), sail(0, 1), repair(0, 2)), [1, 2, 1, 2])

    def test_costs_are_not_asked(self):
        self.assertEqual(last((BEGIN, 2, 2), (COST, 0, 1, 1000), (COST, 1, 0, 1000), repair(1, 0)), [0, 2, 1, 0])
        self.assertEqual(last((BEGIN, 1, 3), (COST, 0, 1, 9), (OUT, 0, 1), repair(0)), [1, 1, 1])

    def test_due_crews_alone_by_their_numbers(self):
        told = [(BEGIN, 4, 3), (REFUSE, 1, 2), due(3, 1)]
        self.assertEqual(behind(told, [repair(1, 2), repair(2, 1), repair(2, 2)]), [[0, 2, 1, 2], [1, 2, 0, 1],
                                                                                   [1, 2, 0, 2]])

    def test_nobody_due(self):
        told = [(BEGIN, 2, 2), *all_out(2), due()]
        self.assertEqual(behind(told, [repair(), repair(0)]), [[0, 0], [-3]])

    def test_what_was_sailed_counts(self):
        self.assertEqual(behind([(BEGIN, 2, 2)], [repair(0, 1), sail(0, 1), repair(0, 1), (BACK,), repair(0, 1)]),
                         [[0, 2, 0, 1], [1], [2, 2, 1, 0], [0], [0, 2, 0, 1]])

    def test_not_as_many_as_due_crews(self):
        for row in ((), (0,), (0, 1, 2), (0,) * 1000):
            self.refused(-3, *repair(*row))
        self.assertEqual(last(*TOLD, repair(0, 1)), [2, 2, 1, 0])

    def test_no_such_boat(self):
        for boat in (3, -1, 7, LOWEST, HIGHEST):
            with self.subTest(boat=boat):
                self.refused(-3, *repair(boat, 0))
                self.refused(-3, *repair(0, boat))

    def test_no_flight(self):
        self.refused(-7, *repair(0, 1, 1), before=[(BEGIN, 3, 2)])
        self.refused(-7, *repair(0, 1, 2), before=[(BEGIN, 3, 3), *all_out(3)])
        self.refused(-7, *repair(0, 1, 2), before=only(3, [0], [0], [1, 2]))
        self.refused(-7, *repair(0), before=[(BEGIN, 1, 1), sail(0)])

    def test_a_wrong_row_is_looked_at_ahead_of_no_flight(self):
        for row in ((0, 1), (0, 1, 1, 1), (0, 1, 2), (-1, 0, 0)):
            self.refused(-3, *repair(*row), before=[(BEGIN, 3, 2)])

    def test_changes_nothing(self):
        self.unchanged(TOLD, repair(2, 2))
        self.unchanged([(BEGIN, 3, 3)], repair(2, 1, 0))


if __name__ == "__main__":
    unittest.main()
