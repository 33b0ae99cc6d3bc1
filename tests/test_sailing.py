"""The calls about flights that were sailed: sail, back, log, counts (17, 18, 19, 21)."""

import unittest

from lines import (BACK, BEGIN, BEST, BLOCKED, COST, COUNTS, FIRST, HIGHEST, LET, LOG, LOWEST, MAY, MOST, OUT, PLAN,
                   PRICES, REFUSE, REST, SAFE, SIZE, TOLD, LineTest, all_out, ask, behind, check, costs, due, last,
                   only, probe, repair, sail)


def may_all(crews, boats):
    return [(MAY, crew, boat) for crew in range(crews) for boat in range(boats)]


class Sail(LineTest):
    def test_answers_how_many_have_been_sailed(self):
        self.assertEqual(ask((BEGIN, 2, 3), sail(0, 1), sail(1, 2), sail(2, 0)), [[0], [1], [2], [3]])

    def test_before_begin_an_empty_flight(self):
        self.assertEqual(ask(sail(), sail(), (LOG,), sail(0)), [[1], [2], [2, 0, 0], [-3]])

    def test_one_and_seven(self):
        self.assertEqual(ask((BEGIN, 1, 1), sail(0), sail(0)), [[0], [1], [-3]])
        turned = [sail(*[(crew + turn) % 7 for crew in range(7)]) for turn in range(7)]
        self.assertEqual(behind([(BEGIN, 7, 7)], [*turned, (FIRST,), (MOST,)]),
                         [[1], [2], [3], [4], [5], [6], [7], [-7], [0]])

    def test_who_sailed_together_may_not_again(self):
        self.assertEqual(behind([(BEGIN, 2, 3), sail(2, 0)], may_all(2, 3)), [[1], [1], [0], [0], [1], [1]])

    def test_crews_that_are_not_due_do_not_sail(self):
        self.assertEqual(behind([(BEGIN, 3, 3), due(2, 0), sail(1, 0)], may_all(3, 3)),
                         [[1], [0], [1], [1], [1], [1], [0], [1], [1]])

    def test_changes_what_is_answered(self):
        told = [(BEGIN, 2, 3), *costs((0, 1, 2), (0, 4, 8))]
        asked = [(SIZE,), (BLOCKED,), (FIRST,), (BEST,), (PRICES,), check(1, 0, 0), (REST, 2), (REST, 3), (MOST,),
                 (SAFE, 2), (PLAN, 2), repair(0, 0)]
        fresh = [[2], [0, 0], [2, 0, 1], [1, 2, 1, 0], [3, 1, 0, 0, 2, 1, 1], [1, 1], [1], [1], [3], [2, 0, 1],
                 [2, 2, 0, 1, 2, 1, 0], [1, 2, 0, 1]]
        once = [[2], [0, 0], [2, 0, 1], [4, 2, 0, 1], [3, 0, 0, 0, 2, 0, 4], [1, 4], [1], [0], [2], [2, 0, 2],
                [2, 2, 0, 2, 2, 2, 1], [1, 2, 0, 1]]
        self.assertEqual(behind(told, asked), fresh)
        self.assertEqual(behind(told, [sail(1, 0), *asked]), [[1], *once])
        self.assertEqual(behind(told, [sail(1, 0), (BACK,), *asked]), [[1], [0], *fresh])

    def test_crews_are_blocked_by_what_they_have_sailed(self):
        self.assertEqual(ask((BEGIN, 2, 3), (OUT, 2, 1), sail(0, 1), sail(1, 0), (SIZE,), (BLOCKED,), (FIRST,), (BEST,),
                             (PRICES,), check(0, 0, 0), (REST, 1), (SAFE, 1), (PLAN, 1), repair(0, 1))[4:],
                         [[0], [2, 0, 1, 0], [-7], [-7], [-7], [0], [0], [-7], [-7], [-7]])

    def test_no_flight(self):
        told = [*only(4, [0, 1], [0, 1, 3], [2]), (OUT, 3, 1)]
        for row in ((), (0, 1), (0, 1, 2, 3), (0, 1, 1), (0, 0, 2), (2, 1, 0), (0, 3, 2), (0, 1, 4), (0, 1, -1),
                    (-1, 0, 2), (0, LOWEST, 2), (HIGHEST, 1, 2), (0,) * 1000):
            with self.subTest(row=row):
                self.refused(-3, *sail(*row), before=told)
        self.assertEqual(behind(told, [sail(0, 1, 2)]), [[1]])
        self.assertEqual(behind(told, [sail(1, 0, 2)]), [[1]])

    def test_no_flight_behind_one_that_was_sailed(self):
        told = [(BEGIN, 3, 3), sail(0, 1, 2)]
        for row in ((0, 1, 2), (0, 2, 1), (2, 1, 0), (1, 0, 2)):
            self.refused(-3, *sail(*row), before=told)
        self.assertEqual(behind(told, [sail(1, 2, 0), sail(2, 0, 1)]), [[2], [3]])

    def test_nobody_due(self):
        told = [(BEGIN, 3, 3), *all_out(3), due()]
        self.refused(-3, *sail(0), before=told)
        self.assertEqual(behind(told, [sail(), (LOG,)]), [[1], [1, 0]])

    def test_rows_go_by_the_crews_numbers(self):
        self.assertEqual(last((BEGIN, 3, 3), due(2, 0), sail(1, 0), (LOG,)), [1, 2, 0, 1, 2, 0])

    def test_twenty_have_been_sailed(self):
        told = [(BEGIN, 3, 3), sail(2, 1, 0), due(), *[sail()] * 18]
        self.assertEqual(behind(told, [sail(), (COUNTS,), sail()]), [[20], [3, 3, 0, 3, 20], [-8]])
        full = [*told, sail(), due(0, 1, 2)]
        self.refused(-8, *sail(0, 2, 1), before=full)
        self.refused(-8, *sail(), before=[*told, sail()])
        self.assertEqual(behind(full, [(BACK,), sail(0, 2, 1), (LOG,)]),
                         [[19], [20], [20, 3, 0, 2, 1, 1, 2, 0] + [0] * 18 + [3, 0, 0, 1, 2, 2, 1]])

    def test_no_flight_is_looked_at_ahead_of_twenty(self):
        full = [(BEGIN, 3, 3), sail(2, 1, 0), due(), *[sail()] * 19, due(0, 1, 2)]
        for row in ((), (0, 1, 2), (0, 0, 1), (0, 2, 3), (0, 2)):
            self.refused(-3, *sail(*row), before=full)

    def test_twenty_flights_of_one_crew_each(self):
        flights = [[due(crew), sail(boat)] for crew in range(4) for boat in range(5)]
        told = [(BEGIN, 4, 5)] + [call for flight in flights for call in flight]
        self.assertEqual(last(*told), [20])
        self.assertEqual(last(*told, (LOG,)),
                         [20] + [n for crew in range(4) for boat in range(5) for n in (1, crew, boat)])

    def test_what_is_told_later_leaves_what_was_sailed(self):
        told = [(BEGIN, 3, 3), sail(0, 1, 2)]
        for later in ([due(1)], [due()], [(OUT, 0, 1)], [(OUT, 0, 1), (OUT, 0, 0)], [(OUT, 1, 0)], [(REFUSE, 0, 0)],
                      [(REFUSE, 0, 0), (LET, 0, 0)], [(COST, 0, 0, 9)], [(REFUSE, 0, 1)]):
            with self.subTest(later=later):
                self.assertEqual(behind(told + later, [(LOG,), (MAY, 0, 0), (MAY, 1, 1), (MAY, 2, 2)]),
                                 [[1, 3, 0, 0, 1, 1, 2, 2], [0], [0], [0]])

    def test_a_pair_that_has_sailed_is_not_refused(self):
        self.assertEqual(ask((BEGIN, 1, 2), sail(0), (LET, 0, 0), (REFUSE, 0, 0), (BACK,), (MAY, 0, 0), (LET, 0, 0),
                             (MAY, 0, 0)),
                         [[0], [1], [-5], [0], [0], [0], [0], [1]])

    def test_begin_takes_it_away(self):
        told = [(BEGIN, 3, 3), sail(0, 1, 2), sail(1, 2, 0)]
        for crews, boats in ((3, 3), (2, 4), (7, 7), (1, 1)):
            probes = probe(crews, boats)
            self.assertEqual(behind([*told, (BEGIN, crews, boats)], probes), behind([(BEGIN, crews, boats)], probes))
        self.assertEqual(behind(told, [(BEGIN, 3, 3), (LOG,), (COUNTS,), (BACK,), sail(0, 1, 2)]),
                         [[0], [0], [3, 3, 3, 3, 0], [-6], [1]])

    def test_a_refused_begin_does_not(self):
        self.assertEqual(ask((BEGIN, 2, 2), sail(0, 1), (BEGIN, 8, 2), (LOG,), (MAY, 0, 0))[2:],
                         [[-2], [1, 2, 0, 0, 1, 1], [0]])


class Back(LineTest):
    def test_none_has_been_sailed(self):
        self.assertEqual(ask((BACK,), (BEGIN, 2, 2), (BACK,), sail(0, 1), (BACK,), (BACK,)),
                         [[-6], [0], [-6], [1], [0], [-6]])
        self.refused(-6, BACK, before=[(BEGIN, 3, 3), (REFUSE, 0, 0)])

    def test_as_if_the_last_one_had_not_been_sailed(self):
        probes = probe(3, 4)
        told = [(BEGIN, 3, 4), (REFUSE, 0, 0), (COST, 1, 2, 9), sail(1, 2, 3)]
        self.assertEqual(behind([*told, sail(2, 3, 0), (BACK,)], probes), behind(told, probes))
        self.assertEqual(behind([*told, (BACK,)], probes), behind(told[:-1], probes))

    def test_the_last_one_first(self):
        told = [(BEGIN, 2, 3), sail(0, 1), sail(1, 2), sail(2, 0)]
        self.assertEqual(behind(told, [(BACK,), (LOG,), (BACK,), (LOG,), (BACK,), (LOG,), (BACK,)]),
                         [[2], [2, 2, 0, 0, 1, 1, 2, 0, 1, 1, 2], [1], [1, 2, 0, 0, 1, 1], [0], [0], [-6]])

    def test_who_is_due_and_what_is_out_stays(self):
        told = [(BEGIN, 3, 3), sail(0, 1, 2), due(1), (OUT, 0, 1), (BACK,)]
        self.assertEqual(behind(told, [(COUNTS,), (MAY, 0, 0), (MAY, 1, 1), (MAY, 2, 2), (FIRST,)]),
                         [[3, 3, 1, 2, 0], [0], [1], [1], [1, 1]])

    def test_crews_that_are_due_no_more_come_back_too(self):
        self.assertEqual(behind([(BEGIN, 2, 2), sail(0, 1), due(1), sail(0)], [(BACK,), (BACK,), *may_all(2, 2)]),
                         [[1], [0], [1], [1], [1], [1]])

    def test_an_empty_flight(self):
        self.assertEqual(ask((BEGIN, 1, 1), sail(0), due(), sail(), (BACK,), (MAY, 0, 0), (BACK,), (MAY, 0, 0))[4:],
                         [[1], [0], [0], [1]])


class Log(LineTest):
    def test_none(self):
        self.assertEqual(ask((LOG,), (BEGIN, 2, 2), (LOG,)), [[0], [0], [0]])

    def test_the_first_one_first_and_pairs_by_the_crews_numbers(self):
        told = [(BEGIN, 3, 4), sail(3, 0, 1), due(2, 1), sail(3, 2), due(), sail(), due(0), sail(1)]
        self.assertEqual(last(*told, (LOG,)), [4, 3, 0, 3, 1, 0, 2, 1, 2, 1, 3, 2, 2, 0, 1, 0, 1])

    def test_a_refused_sail_is_not_there(self):
        self.assertEqual(last((BEGIN, 2, 2), sail(0, 0), sail(1, 0), sail(1, 0), (LOG,)), [1, 2, 0, 1, 1, 0])

    def test_changes_nothing(self):
        self.unchanged(TOLD, (LOG,))


class Counts(LineTest):
    def test_before_begin(self):
        self.assertEqual(ask((COUNTS,)), [[0, 0, 0, 0, 0]])
        self.assertEqual(ask(sail(), (COUNTS,)), [[1], [0, 0, 0, 0, 1]])

    def test_behind_begin(self):
        for crews in range(1, 8):
            for boats in range(1, 8):
                self.assertEqual(last((BEGIN, crews, boats), (COUNTS,)), [crews, boats, crews, boats, 0])

    def test_each_by_itself(self):
        told = [(BEGIN, 5, 6)]
        self.assertEqual(behind(told, [due(4, 1), (COUNTS,)])[1], [5, 6, 2, 6, 0])
        self.assertEqual(behind(told, [due(), (COUNTS,)])[1], [5, 6, 0, 6, 0])
        self.assertEqual(behind(told, [(OUT, 5, 1), (OUT, 0, 1), (OUT, 0, 1), (COUNTS,)])[3], [5, 6, 5, 4, 0])
        self.assertEqual(behind(told, [*all_out(6), (COUNTS,)])[6], [5, 6, 5, 0, 0])
        self.assertEqual(behind(told, [sail(0, 1, 2, 3, 4), (COUNTS,), (BACK,), (COUNTS,)]),
                         [[1], [5, 6, 5, 6, 1], [0], [5, 6, 5, 6, 0]])
        self.assertEqual(behind(told, [(REFUSE, 0, 0), (COST, 0, 0, 8), (COUNTS,)])[2], [5, 6, 5, 6, 0])

    def test_all_together(self):
        self.assertEqual(last(*TOLD, (COUNTS,)), [3, 3, 2, 2, 1])

    def test_changes_nothing(self):
        self.unchanged(TOLD, (COUNTS,))


if __name__ == "__main__":
    unittest.main()
