"""How calls are handed in to answers, and how what they are answered comes back."""

import unittest

from flightplans.desk import answers


class Interface(unittest.TestCase):
    def test_each_answer_has_its_length_ahead(self):
        self.assertEqual(answers([0, 2, 3]), [1, 0])
        self.assertEqual(answers([9]), [1, 0])
        self.assertEqual(answers([8]), [2, 0, 0])
        self.assertEqual(answers([10]), [2, 0, 0])
        self.assertEqual(answers([0, 0, 3]), [1, -2])

    def test_calls_are_answered_one_behind_another(self):
        calls = [0, 2, 3, 1, 0, 0, 3, 0, 1, 40, 3, 1, 0, 2, 4, 2, 1, 5, 2, 1, 0, 6, 0, 0, 7, 8, 9, 10, 2, 0, 0]
        self.assertEqual(answers(calls), [1, 0, 1, 0, 1, 0, 1, 0, 1, 0, 1, 2, 1, 0, 1, 2, 2, 0, 0, 3, 2, 1, 0,
                                          4, 42, 2, 1, 0, 1, 0])

    def test_a_refusal_does_not_end_the_line(self):
        self.assertEqual(answers([1, 0, 0, 0, 2, 1, 9, 10, 8, 7, 6, 5, 5]),
                         [1, -1, 1, 0, 1, -7, 1, -7, 5, 2, 0, 1, 1, 0, 1, 1, 1, -1])

    def test_a_row_has_its_length_ahead(self):
        self.assertEqual(answers([0, 3, 3, 5, 0, 9, 5, 1, 2, 9, 5, 3, 2, 1, 0, 9]),
                         [1, 0, 1, 0, 1, 0, 1, 1, 2, 1, 0, 1, 3, 4, 3, 0, 1, 2])

    def test_a_row_that_looks_like_calls(self):
        self.assertEqual(answers([0, 7, 7, 5, 3, 5, 1, 0, 9]), [1, 0, 1, 3, 4, 3, 0, 1, 2])

    def test_a_long_row_is_passed_over_whole(self):
        self.assertEqual(answers([0, 2, 2, 5, 1000] + [9] * 1000 + [7]), [1, 0, 1, -1, 1, 2])
        self.assertEqual(answers([0, 2, 2, 5, 1000] + [0] * 1000 + [7]), [1, 0, 1, -5, 1, 2])

    def test_four_hundred_calls(self):
        self.assertEqual(answers([0, 7, 7] + [8] * 399), [1, 0] + [2, 0, 0] * 399)
        self.assertEqual(answers([0, 7, 7] + [10] * 399), [1, 0] + [9, 0, 7, 0, 1, 2, 3, 4, 5, 6] * 399)
        self.assertEqual(answers([0, 7, 1] + [8, 7, 9] * 133),
                         [1, 0] + [10, 7, 0, 1, 2, 3, 4, 5, 6, 1, 0, 1, 1, 1, -7] * 133)

    def test_what_is_handed_in_stays_as_it_was(self):
        calls = [0, 3, 3, 5, 3, 2, 1, 0, 1, 0, 0, 3, 1, 1, 7, 4, 2, 1, 8, 9, 10, 5, 2, 0, 0]
        handed = list(calls)
        answers(handed)
        self.assertEqual(handed, calls)

    def test_a_second_time_answers_the_same(self):
        calls = [7, 9, 0, 2, 2, 1, 0, 0, 3, 0, 1, 9, 4, 0, 1, 5, 1, 1, 9, 10]
        one = answers(calls)
        kept = list(one)
        two = answers(calls)
        self.assertEqual(two, kept)
        self.assertEqual(one, kept)
        self.assertIsNot(one, two)

    def test_nothing_is_kept_from_one_time_to_the_next(self):
        answers([0, 2, 2, 1, 0, 0, 3, 0, 1, 9, 4, 0, 1, 5, 1, 1])
        self.assertEqual(answers([6, 0, 0, 9, 7]), [1, -1, 1, 0, 1, 0])
        self.assertEqual(answers([0, 2, 2, 6, 0, 0, 10]), [1, 0, 1, 1, 4, 0, 2, 0, 1])

    def test_what_is_given_back_can_be_changed_without_harm(self):
        answers([0, 2, 2, 9]).clear()
        self.assertEqual(answers([0, 2, 2, 9]), [1, 0, 3, 2, 0, 1])

    def test_kinds(self):
        given = answers([0, 3, 2, 1, 0, 0, 4, 1, 1, 6, 0, 1, 6, 1, 0, 5, 2, 0, 1, 7, 8, 9, 10, 5, 1, 1, 9, 10])
        self.assertIs(type(given), list)
        self.assertEqual({type(number) for number in given}, {int})


if __name__ == "__main__":
    unittest.main()
