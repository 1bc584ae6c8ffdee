"""The interface: a list of calls in, a list of counted answers out."""

import unittest

from radiofood.ice import answers
from tests.helper import BEGIN, COME, GIVE, HEAR, LAY, LOOK, SPLIT, USE, flat

STORY = flat([
    (BEGIN, 2, 1), (COME, 0, 1), (LAY, 0, 10), (SPLIT, 0, 101, 4), (GIVE, 0, 103, 1), (HEAR, 0), (HEAR, 1),
    (COME, 1, 1), (USE, 1, 104), (LOOK, 1), (USE, 1, 104),
])


class Answers(unittest.TestCase):
    def test_each_answer_stands_behind_its_count(self):
        self.assertEqual(answers(STORY), [
            1, 0, 1, 0, 2, 0, 101, 3, 0, 102, 103, 3, 0, 104, 0, 2, 0, 1, 2, 0, -1,
            1, 0, 2, 0, 6, 2, 0, 0, 1, -4,
        ])

    def test_one_call_alone(self):
        self.assertEqual(answers([BEGIN, 1, 1]), [1, 0])
        self.assertEqual(answers([LOOK, 0]), [1, -2])

    def test_what_is_handed_in_stays_as_it_was(self):
        calls = list(STORY)
        told = answers(calls)
        self.assertEqual(calls, STORY)
        self.assertIsNot(told, calls)

    def test_nothing_is_kept_from_one_time_to_the_next(self):
        self.assertEqual(answers(STORY), answers(STORY))
        self.assertEqual(answers([COME, 0, 0]), [1, -2])

    def test_whole_numbers_are_ints(self):
        told = answers(STORY)
        self.assertIs(type(told), list)
        self.assertEqual({type(number) for number in told}, {int})

    def test_two_hundred_calls(self):
        calls = flat([(BEGIN, 6, 6)] + [(COME, 5, 6)] * 199)
        self.assertEqual(answers(calls), [1, 0] * 200)


if __name__ == "__main__":
    unittest.main()
