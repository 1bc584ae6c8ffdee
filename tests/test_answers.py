"""The interface: a list of calls in, a list of counted answers out."""

import unittest

from radiofood.ice import answers
from tests.helper import AIR, ARM, AUDIT, BEGIN, CLEAR, COME, COUNTS, DISARM, ENTRY, GIVE, HEAR, LAY, LOOK, MESSAGE
from tests.helper import PAPER, SPLIT, TIN, USE, flat

STORY = flat([
    (BEGIN, 2, 1), (COME, 0, 1), (LAY, 0, 10), (SPLIT, 0, 101, 4), (GIVE, 0, 103, 1), (HEAR, 0), (HEAR, 1),
    (COME, 1, 1), (USE, 1, 104), (LOOK, 1), (USE, 1, 104),
])
MIXED = flat([
    (AIR,), (BEGIN, 2, 1), (COME, 0, 1), (ARM, 2), (LAY, 0, 10), (AIR,), (LOOK, 0), (PAPER, 0), (CLEAR,), (PAPER, 1),
    (GIVE, 0, 101, 1), (AUDIT, 0), (ARM, 5), (CLEAR,), (DISARM,), (CLEAR,), (COUNTS, 1, 0), (MESSAGE, 2), (TIN, 0),
    (ENTRY, 0, 102), (ENTRY, 0, 103), (AIR,),
])


class Answers(unittest.TestCase):
    def test_each_answer_stands_behind_its_count(self):
        self.assertEqual(answers(STORY), [
            1, 0, 1, 0, 2, 0, 101, 3, 0, 102, 103, 3, 0, 104, 0, 2, 0, 1, 2, 0, -1,
            1, 0, 2, 0, 6, 2, 0, 0, 1, -4,
        ])

    def test_all_calls_mixed(self):
        self.assertEqual(answers(MIXED), [
            1, -2, 1, 0, 1, 0, 1, 0, 1, 1, 5, 0, -1, 10, 0, 0, 4, 0, 2, 101, 0, 7, 1, 1, 101, 0, 10, 0, 0,
            3, 0, 0, 0, 2, 0, 0, 3, 0, 102, 0, 3, 0, 10, 10, 1, 0, 1, -4, 1, 0, 3, 0, 1, 0, 1, 10,
            6, 1, 1, 0, 102, 0, 10, 4, 10, 1, 101, 0, 5, 102, 0, 10, 3, 1, 1, -4, 5, 3, -1, 10, 0, 0,
        ])

    def test_one_call_alone(self):
        self.assertEqual(answers([BEGIN, 1, 1]), [1, 0])
        self.assertEqual(answers([LOOK, 0]), [1, -2])

    def test_what_is_handed_in_stays_as_it_was(self):
        for story in (STORY, MIXED):
            calls = list(story)
            told = answers(calls)
            self.assertEqual(calls, story)
            self.assertIsNot(told, calls)

    def test_nothing_is_kept_from_one_time_to_the_next(self):
        self.assertEqual(answers(STORY), answers(STORY))
        self.assertEqual(answers(MIXED + [ARM, 0]), answers(MIXED + [ARM, 0]))
        self.assertEqual(answers([COME, 0, 0]), [1, -2])

    def test_whole_numbers_are_ints(self):
        for story in (STORY, MIXED):
            told = answers(story)
            self.assertIs(type(told), list)
            self.assertEqual({type(number) for number in told}, {int})

    def test_two_hundred_calls(self):
        calls = flat([(BEGIN, 6, 6)] + [(COME, 5, 6)] * 199)
        self.assertEqual(answers(calls), [1, 0] * 200)


if __name__ == "__main__":
    unittest.main()
