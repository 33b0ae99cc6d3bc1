"""How calls are handed in to answers, and how what they are answered comes back."""

import unittest

from flightplans.desk import answers
from lines import (BACK, BEGIN, BEST, BLOCKED, COST, COUNTS, FIRST, LET, LOG, MAY, MOST, OUT, PLAN, PRICES, REFUSE,
                   REST, SAFE, SIZE, ask, behind, check, costs, due, flat, repair, sail)

# One of each call, and most of them once more behind a sail.
ALL_CALLS = [(BEGIN, 3, 4), (REFUSE, 0, 0), (REFUSE, 2, 3), (LET, 0, 0), (COST, 0, 0, 9), (COST, 1, 1, 20), (OUT, 3, 1),
             due(2, 0, 1), (MAY, 0, 0), (SIZE,), (BLOCKED,), (FIRST,), (BEST,), (PRICES,), check(1, 2, 3, 4), (REST, 2),
             (MOST,), (SAFE, 2), (PLAN, 2), sail(2, 1, 0), (LOG,), (MAY, 0, 2), (BEST,), (PRICES,), (MOST,),
             repair(0, 0, 2), (COUNTS,), (BACK,), (BACK,), sail(1, 1, 1), repair(9, 9, 9), check(1), (PLAN, 0)]
ALL_ANSWERS = [[0], [0], [0], [0], [0], [0], [0],
               [3], [1], [3], [0, 0], [3, 0, 1, 2], [0, 3, 1, 0, 2], [4, 0, 0, 0, 0, 3, 0, 0, 0], [1, -2], [1],
               [3], [3, 0, 1, 2], [2, 3, 0, 1, 2, 3, 1, 2, 0], [1], [1, 3, 0, 2, 1, 1, 2, 0], [0], [0, 3, 1, 0, 2],
               [4, 0, 0, 0, 0, 3, 0, 0, 0], [2],
               [1, 3, 1, 0, 2], [3, 4, 3, 3, 1], [0], [-6], [-3], [-3], [-3], [-2]]
# Seven crews and boats, with a cost for each pair and two boats refused to each crew.
SEVEN = [(BEGIN, 7, 7), *costs(*[[(crew * 37 + boat * 91) % 1001 for boat in range(7)] for crew in range(7)]),
         *[(REFUSE, crew, boat) for crew in range(7) for boat in (crew, (crew + 4) % 7)]]


class Interface(unittest.TestCase):
    def test_each_answer_has_its_length_ahead(self):
        self.assertEqual(answers([0, 2, 3]), [1, 0])
        self.assertEqual(answers([9]), [1, 0])
        self.assertEqual(answers([8]), [2, 0, 0])
        self.assertEqual(answers([10]), [2, 0, 0])
        self.assertEqual(answers([0, 0, 3]), [1, -2])

    def test_calls_are_answered_one_behind_another(self):
        calls = [0, 2, 3, 1, 0, 0, 3, 0, 1, 40, 3, 1, 0, 2, 4, 2, 1, 5, 2, 1, 0, 6, 0, 0, 7, 8, 9, 10, 2, 0, 0]
        self.assertEqual(answers(calls), [1, 0, 1, 0, 1, 0, 1, 0, 1, 0, 1, 2, 1, 0, 1, 2, 2, 0, 0, 3, 2, 1, 0,
                                          4, 42, 2, 1, 0, 1, 0])

    def test_all_calls_one_behind_another(self):
        wanted = flat([(len(answer), *answer) for answer in ALL_ANSWERS])
        self.assertEqual(answers(flat(ALL_CALLS)), wanted)
        self.assertEqual(answers(flat(ALL_CALLS * 12)), wanted * 12)

    def test_a_refusal_does_not_end_the_line(self):
        self.assertEqual(answers([1, 0, 0, 0, 2, 1, 9, 10, 8, 7, 6, 5, 5]),
                         [1, -1, 1, 0, 1, -7, 1, -7, 5, 2, 0, 1, 1, 0, 1, 1, 1, -1])

    def test_a_row_has_its_length_ahead(self):
        self.assertEqual(answers([0, 3, 3, 5, 0, 9, 5, 1, 2, 9, 5, 3, 2, 1, 0, 9]),
                         [1, 0, 1, 0, 1, 0, 1, 1, 2, 1, 0, 1, 3, 4, 3, 0, 1, 2])

    def test_a_row_that_looks_like_calls(self):
        self.assertEqual(answers([0, 7, 7, 5, 3, 5, 1, 0, 9]), [1, 0, 1, 3, 4, 3, 0, 1, 2])

    def test_every_call_with_a_row_has_its_length_ahead(self):
        self.assertEqual(answers([12, 0, 17, 0, 20, 0, 21]), [2, 1, 0, 1, 1, 2, 0, 0, 5, 0, 0, 0, 0, 1])
        self.assertEqual(answers([0, 2, 3, 12, 3, 17, 18, 19, 17, 2, 1, 0, 20, 2, 0, 1, 19]),
                         [1, 0, 2, 1, -20, 1, 1, 4, 0, 2, 0, 1, 6, 1, 2, 0, 1, 1, 0])

    def test_a_long_row_is_passed_over_whole(self):
        for number in (12, 17, 20):
            self.assertEqual(answers([0, 2, 2, number, 1000] + [21] * 1000 + [7]), [1, 0, 1, -3, 1, 2])
        self.assertEqual(answers([0, 2, 2, 5, 1000] + [9] * 1000 + [7]), [1, 0, 1, -1, 1, 2])
        self.assertEqual(answers([0, 2, 2, 5, 1000] + [0] * 1000 + [7]), [1, 0, 1, -5, 1, 2])

    def test_four_hundred_calls(self):
        self.assertEqual(answers([0, 7, 7] + [8] * 399), [1, 0] + [2, 0, 0] * 399)
        self.assertEqual(answers([0, 7, 7] + [10] * 399), [1, 0] + [9, 0, 7, 0, 1, 2, 3, 4, 5, 6] * 399)
        self.assertEqual(answers([0, 7, 1] + [8, 7, 9] * 133),
                         [1, 0] + [10, 7, 0, 1, 2, 3, 4, 5, 6, 1, 0, 1, 1, 1, -7] * 133)

    def test_four_hundred_calls_with_seven_crews_and_boats(self):
        room = 400 - len(SEVEN)
        for call in ((SIZE,), (BLOCKED,), (FIRST,), (BEST,), (PRICES,), check(*range(7)), (REST, 5), (MOST,), (SAFE, 5),
                     (SAFE, 3), (PLAN, 5), (PLAN, 2), (LOG,), repair(*[3] * 7), (COUNTS,)):
            with self.subTest(call=call):
                given = behind(SEVEN, [call] * room)
                self.assertEqual(given, behind(SEVEN, [call]) * room)
                self.assertGreaterEqual(given[0][0], 0)

    def test_four_hundred_calls_that_sail_to_and_fro(self):
        turned = [sail(*[(crew + turn) % 7 for crew in range(7)]) for turn in range(7)]
        line = [(BEGIN, 7, 7)] + (turned + [(BACK,)] * 7) * 28
        counted = [[n] for n in (1, 2, 3, 4, 5, 6, 7, 6, 5, 4, 3, 2, 1, 0)]
        self.assertEqual(ask(*line), [[0]] + counted * 28)

    def test_what_is_handed_in_stays_as_it_was(self):
        handed = flat(ALL_CALLS)
        answers(handed)
        self.assertEqual(handed, flat(ALL_CALLS))
        calls = [0, 3, 3, 5, 3, 2, 1, 0, 1, 0, 0, 3, 1, 1, 7, 4, 2, 1, 8, 9, 10, 5, 2, 0, 0]
        handed = list(calls)
        answers(handed)
        self.assertEqual(handed, calls)

    def test_a_second_time_answers_the_same(self):
        self.assertEqual(answers(flat(ALL_CALLS)), answers(flat(ALL_CALLS)))
        calls = [7, 9, 0, 2, 2, 1, 0, 0, 3, 0, 1, 9, 4, 0, 1, 5, 1, 1, 9, 10]
        one = answers(calls)
        kept = list(one)
        two = answers(calls)
        self.assertEqual(two, kept)
        self.assertEqual(one, kept)
        self.assertIsNot(one, two)

    def test_nothing_is_kept_from_one_time_to_the_next(self):
        answers([0, 2, 2, 1, 0, 0, 3, 0, 1, 9, 4, 0, 1, 5, 1, 1])
        self.assertEqual(answers([6, 0, 0, 9, 7]), [1, -1, 1, 0, 1, 0])
        self.assertEqual(answers([0, 2, 2, 6, 0, 0, 10]), [1, 0, 1, 1, 4, 0, 2, 0, 1])
        answers([0, 2, 2, 17, 2, 0, 1])
        self.assertEqual(answers([19, 18, 21]), [1, 0, 1, -6, 5, 0, 0, 0, 0, 0])
        self.assertEqual(answers([0, 2, 2, 19, 6, 0, 0]), [1, 0, 1, 0, 1, 1])

    def test_what_is_given_back_can_be_changed_without_harm(self):
        answers([0, 2, 2, 9]).clear()
        self.assertEqual(answers([0, 2, 2, 9]), [1, 0, 3, 2, 0, 1])

    def test_kinds(self):
        given = answers([0, 3, 2, 1, 0, 0, 4, 1, 1, 6, 0, 1, 6, 1, 0, 5, 2, 0, 1, 7, 8, 9, 10, 5, 1, 1, 9, 10])
        self.assertIs(type(given), list)
        self.assertEqual({type(number) for number in given}, {int})
        self.assertEqual({type(number) for number in answers(flat(ALL_CALLS))}, {int})


if __name__ == "__main__":
    unittest.main()
