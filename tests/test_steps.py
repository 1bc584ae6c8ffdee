"""Small steps: what has been done, and what not, when a call is cut off ahead of each of them."""

import unittest

from tests.helper import AGAIN, AIR, ARM, ASK, AUDIT, BEGIN, CLEAR, COME, COUNTS, DISARM, ENTRY, GIVE, HEAR, JOIN
from tests.helper import LAY, LOOK, MESSAGE, PAPER, SPLIT, TIN, USE
from tests.helper import BEING_LAID, BEING_USED, GIVEN, HELD, OVER, REFUSED, SETTLED, USED
from tests.helper import ASK_MESSAGE, GIFT_MESSAGE, GOT_MESSAGE, REFUSED_MESSAGE
from tests.helper import last_told, shown, told

LAID = ((BEGIN, 2, 1), (COME, 0, 1), (LAY, 0, 10))
GAVE = LAID + ((GIVE, 0, 101, 1),)
ASKED = GAVE + ((ASK, 0, 102),)

OVER_101 = [101, 0, 10, OVER, 0]
GIFT = [GIFT_MESSAGE, 0, 1, 102, 0, 10]
GOT = [GOT_MESSAGE, 1, 0, 102, 0, 10]
ASKING = [ASK_MESSAGE, 0, 1, 102, 0, 10]
REFUSAL = [REFUSED_MESSAGE, 1, 0, 102, 0, 10]


class Steps(unittest.TestCase):
    def check_steps(self, calls, call, answer, *steps):
        """The call has just these steps, each told by what is shown otherwise behind it."""
        view = shown(*calls)
        for done, step in enumerate(steps):
            cut = calls + ((ARM, done), call)
            self.assertEqual(last_told(*cut), [1])
            self.assertEqual(shown(*cut), view | {"armed": -1})
            view = view | step
        for spare in (0, 1, 2):
            whole = calls + ((ARM, len(steps) + spare), call)
            self.assertEqual(last_told(*whole), answer)
            self.assertEqual(shown(*whole), view | {"armed": spare})
        whole = calls + ((ARM, 1000), call)
        self.assertEqual(shown(*whole), view | {"armed": 1000 - len(steps)})
        for before in (calls, calls + ((ARM, 0), (DISARM,))):
            self.assertEqual(last_told(*before, call), answer)
            self.assertEqual(shown(*before, call), view | {"armed": -1})

    def test_lay(self):
        self.check_steps(
            LAID[:2], (LAY, 0, 10), [0, 101],
            {"paper 0": [1, 1, 101, 0, 10, BEING_LAID, 0]},
            {"tin 0": [10, 1, 101, 0], "laid": 10},
            {"paper 0": [1, 1, 101, 0, 10, HELD, 0]})

    def test_a_number_once_written_is_not_made_again(self):
        self.assertEqual(last_told(*LAID[:2], (ARM, 1), (LAY, 0, 10), (LAY, 0, 1)), [0, 102])
        self.assertEqual(last_told(*LAID[:2], (ARM, 0), (LAY, 0, 10), (LAY, 0, 1)), [0, 101])

    def test_use(self):
        self.check_steps(
            LAID, (USE, 0, 101), [0, 10],
            {"paper 0": [1, 1, 101, 0, 10, BEING_USED, 0]},
            {"tin 0": [0, 1, 101, 1, 101], "eaten": [10, 0]},
            {"paper 0": [1, 1, 101, 0, 10, USED, 0]})

    def test_give(self):
        self.check_steps(
            LAID, (GIVE, 0, 101, 1), [0, 102, 0],
            {"paper 0": [2, 2] + OVER_101 + [102, 0, 10, GIVEN, 1]},
            {"messages": [GIFT]})

    def test_a_gift_that_was_cut_off_is_sent_again(self):
        cut = LAID + ((ARM, 1), (GIVE, 0, 101, 1))
        self.assertEqual(told(*cut, (AGAIN, 0, 102), (MESSAGE, 0))[-2:], [[0, 0], GIFT])

    def test_split(self):
        self.check_steps(
            LAID, (SPLIT, 0, 101, 4), [0, 102, 103],
            {"paper 0": [3, 3] + OVER_101 + [102, 0, 4, HELD, 0, 103, 0, 6, HELD, 0]})

    def test_join(self):
        self.check_steps(
            LAID + ((LAY, 0, 1),), (JOIN, 0, 102, 101), [0, 103],
            {"paper 0": [3, 3] + OVER_101 + [102, 0, 1, OVER, 0, 103, 0, 11, HELD, 0]})

    def test_again_and_ask(self):
        self.check_steps(GAVE, (AGAIN, 0, 102), [0, 1], {"messages": [GIFT, GIFT]})
        self.check_steps(GAVE, (ASK, 0, 102), [0, 1], {"messages": [GIFT, ASKING]})

    def test_hear_gift(self):
        self.check_steps(
            GAVE, (HEAR, 0), [0, 1],
            {"paper 1": [0, 1, 102, 0, 10, HELD, 0]},
            {"messages": [GIFT, GOT]})

    def test_hear_gift_where_there_is_an_entry(self):
        self.check_steps(GAVE + ((HEAR, 0),), (HEAR, 0), [0, 2], {"messages": [GIFT, GOT, GOT]})
        self.check_steps(ASKED + ((HEAR, 1),), (HEAR, 0), [0, 3], {"messages": [GIFT, ASKING, REFUSAL, REFUSAL]})

    def test_a_gift_heard_but_not_answered_is_heard_again(self):
        cut = GAVE + ((ARM, 1), (HEAR, 0))
        self.check_steps(cut, (HEAR, 0), [0, 1], {"messages": [GIFT, GOT]})

    def test_hear_ask(self):
        self.check_steps(
            ASKED, (HEAR, 1), [0, 2],
            {"paper 1": [0, 1, 102, 0, 10, REFUSED, 0]},
            {"messages": [GIFT, ASKING, REFUSAL]})

    def test_hear_ask_where_there_is_an_entry(self):
        self.check_steps(ASKED + ((HEAR, 0),), (HEAR, 1), [0, 3], {"messages": [GIFT, ASKING, GOT, GOT]})
        self.check_steps(ASKED + ((HEAR, 1),), (HEAR, 1), [0, 3], {"messages": [GIFT, ASKING, REFUSAL, REFUSAL]})

    def test_hear_got(self):
        self.check_steps(
            GAVE + ((HEAR, 0),), (HEAR, 1), [0, -1],
            {"paper 0": [2, 2] + OVER_101 + [102, 0, 10, SETTLED, 1]})

    def test_hear_refused(self):
        self.check_steps(
            ASKED + ((HEAR, 1),), (HEAR, 2), [0, -1],
            {"paper 0": [2, 2] + OVER_101 + [102, 0, 10, HELD, 1]})

    def test_look(self):
        calls = LAID + ((ARM, 2), (USE, 0, 101), (ARM, 1), (LAY, 0, 5), (ARM, 2), (LAY, 0, 6))
        calls += ((LAY, 0, 7), (ARM, 1), (USE, 0, 104))
        used, over, laid = [101, 0, 10, USED, 0], [102, 0, 5, OVER, 0], [103, 0, 6, HELD, 0]
        laying, using, held = [103, 0, 6, BEING_LAID, 0], [104, 0, 7, BEING_USED, 0], [104, 0, 7, HELD, 0]
        self.check_steps(
            calls, (LOOK, 0), [0, 8, 101, USED, 102, OVER, 103, HELD, 104, HELD],
            {"paper 0": [4, 4] + used + [102, 0, 5, BEING_LAID, 0] + laying + using},
            {"paper 0": [4, 4] + used + over + laying + using},
            {"paper 0": [4, 4] + used + over + laid + using},
            {"paper 0": [4, 4] + used + over + laid + held})

    def test_a_look_that_was_cut_off_goes_on(self):
        calls = LAID + ((ARM, 1), (USE, 0, 101), (ARM, 1), (LAY, 0, 5))
        rows = told(*calls, (ARM, 1), (LOOK, 0), (LOOK, 0), (LOOK, 0))
        self.assertEqual(rows[-3:], [[1], [0, 2, 102, OVER], [0, 0]])


class Arming(unittest.TestCase):
    def check_left(self, calls, call, answer):
        """The call neither is cut off nor counts: the arming stays as it was."""
        for armed in (0, 1, 1000):
            rows = told(*calls, (ARM, armed), call, (AIR,))
            self.assertEqual(rows[-2], answer)
            self.assertEqual(rows[-1][1], armed)

    def test_arm_and_disarm_answer_0(self):
        self.assertEqual(told((BEGIN, 1, 1), (ARM, 0), (ARM, 1000), (DISARM,), (DISARM,)), [[0]] * 5)

    def test_arm_whatever_it_was_armed_with(self):
        for first in (0, 3, 1000):
            for then in (0, 3, 1000):
                rows = told((BEGIN, 1, 1), (AIR,), (ARM, first), (AIR,), (ARM, then), (AIR,), (DISARM,), (AIR,))
                self.assertEqual([row[1] for row in rows[1::2]], [-1, first, then, -1])

    def test_arm_and_disarm_change_nothing_else(self):
        calls = ASKED + ((HEAR, 0),)
        self.assertEqual(shown(*calls, (ARM, 7)), shown(*calls) | {"armed": 7})
        self.assertEqual(shown(*calls, (ARM, 7), (DISARM,)), shown(*calls))

    def test_calls_without_steps(self):
        self.check_left(LAID, (COME, 0, 0), [0])
        self.check_left(LAID, (COME, 1, 1), [0])
        self.check_left(LAID, (LOOK, 0), [0, 0])
        self.check_left(GAVE, (PAPER, 1), [0, 0])
        self.check_left(GAVE, (TIN, 0), [10, 1, 101, 0])
        self.check_left(LAID, (COUNTS, 0, 0), [10])
        self.check_left(GAVE, (MESSAGE, 0), GIFT)
        self.check_left(GAVE, (AUDIT, 0), [0, 10, 10])
        self.check_left(GAVE, (ENTRY, 0, 101), OVER_101)

    def test_answers_heard_to_no_avail_have_no_steps(self):
        self.check_left(GAVE + ((HEAR, 0), (HEAR, 1)), (HEAR, 1), [0, -1])
        self.check_left(ASKED + ((HEAR, 1), (HEAR, 2)), (HEAR, 2), [0, -1])

    def test_refused_calls(self):
        away = LAID + ((COME, 0, 0),)
        for calls, call, refusal in (
                (LAID, (COME, 0, 2), -4), (away, (LAY, 0, 1), -4), (LAID, (SPLIT, 0, 102, 1), -4),
                (LAID, (SPLIT, 0, 101, 10), -5), (LAID, (JOIN, 0, 101, 102), -4), (LAID, (JOIN, 0, 101, 101), -5),
                (LAID, (GIVE, 0, 102, 1), -4), (LAID, (GIVE, 0, 101, 0), -5), (LAID, (AGAIN, 0, 101), -4),
                (LAID, (ASK, 0, 101), -4), (LAID, (HEAR, 0), -4), (LAID, (USE, 0, 102), -4),
                (away, (USE, 0, 101), -5), (away, (LOOK, 0), -4), (LAID, (TIN, 1), -3), (LAID, (COUNTS, 0, 1), -4),
                (LAID, (MESSAGE, 0), -4), (LAID, (AUDIT, 1), -3), (LAID, (ENTRY, 0, 102), -4), (GAVE, (CLEAR,), -4)):
            self.check_left(calls, call, [refusal])
            self.assertEqual(shown(*calls, (ARM, 0), call), shown(*calls) | {"armed": 0})

    def test_calls_out_of_range_or_of_no_party(self):
        for call in ((BEGIN, 7, 1), (LAY, 0, 1001), (ARM, 1001), (ARM, -1), (HEAR, 400), (PAPER, 6)):
            self.check_left(LAID, call, [-1])
        for call in ((LAY, 2, 1), (LOOK, 2), (PAPER, 2), (COUNTS, 2, 0), (ENTRY, 2, 101)):
            self.check_left(LAID, call, [-3])

    def test_arming_is_counted_over_several_calls(self):
        rows = told(
            *LAID[:2], (ARM, 4), (LAY, 0, 10), (SPLIT, 0, 101, 1), (SPLIT, 0, 102, 1), (PAPER, 1),
            (JOIN, 0, 102, 103), (JOIN, 0, 102, 103))
        self.assertEqual(rows[3:], [[0, 101], [0, 102, 103], [-5], [0, 0], [1], [0, 104]])

    def test_begin_disarms(self):
        self.assertEqual(told(*LAID, (ARM, 0), (BEGIN, 1, 1), (AIR,))[-2:], [[0], [0, -1, 0, 0]])


if __name__ == "__main__":
    unittest.main()
