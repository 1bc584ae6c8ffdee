"""clear: every gift that is not settled is sent again, heard, answered, and the answer heard."""

import unittest

from tests.helper import AGAIN, AIR, ARM, ASK, AUDIT, BEGIN, CLEAR, COME, DISARM, ENTRY, GIVE, HEAR, LAY, MESSAGE
from tests.helper import PAPER, SPLIT, USE
from tests.helper import GIVEN, HELD, OVER, REFUSED, SETTLED
from tests.helper import ASK_MESSAGE, GIFT_MESSAGE, GOT_MESSAGE, REFUSED_MESSAGE
from tests.helper import check_refused, last_told, seen, shown, told, world_after

LAID = ((BEGIN, 2, 1), (COME, 0, 1), (LAY, 0, 10))
GAVE = LAID + ((GIVE, 0, 101, 1),)
ASKED = GAVE + ((ASK, 0, 102),)

OVER_101 = [101, 0, 10, OVER, 0]
GIFT = [GIFT_MESSAGE, 0, 1, 102, 0, 10]
GOT = [GOT_MESSAGE, 1, 0, 102, 0, 10]
ASKING = [ASK_MESSAGE, 0, 1, 102, 0, 10]
REFUSAL = [REFUSED_MESSAGE, 1, 0, 102, 0, 10]

# Ten promises go round among three parties, and each round sends 30 messages: 390 in 155 calls, none unsettled.
# Then party 1 holds 151 to 160 and has made 40 promises.
ROUNDS = 13


def round_trip():
    calls = [(BEGIN, 3, 1), (COME, 0, 1)] + [(LAY, 0, 1)] * 10
    made = [10, 0, 0]
    numbers = list(range(101, 111))
    for turn in range(ROUNDS):
        p = turn % 3
        calls.extend((GIVE, p, number, (p + 1) % 3) for number in numbers)
        numbers = [100 * (p + 1) + made[p] + at for at in range(1, 11)]
        made[p] += 10
        calls.append((CLEAR,))
    return tuple(calls)


FILLED = round_trip()


class Clear(unittest.TestCase):
    def check_clear(self, calls, answer, changed):
        """What is shown otherwise behind clear, and that a second one finds nothing to do."""
        self.assertEqual(last_told(*calls, (CLEAR,)), answer)
        self.assertEqual(shown(*calls, (CLEAR,)), shown(*calls) | changed)
        self.assertEqual(last_told(*calls, (CLEAR,), (CLEAR,)), [0, 0, 0])
        self.assertEqual(shown(*calls, (CLEAR,), (CLEAR,)), shown(*calls, (CLEAR,)))

    def test_nothing_given(self):
        self.check_clear(LAID[:1], [0, 0, 0], {})
        self.check_clear(LAID, [0, 0, 0], {})

    def test_not_yet_heard(self):
        self.check_clear(GAVE, [0, 1, 0], {
            "paper 0": [2, 2] + OVER_101 + [102, 0, 10, SETTLED, 1], "paper 1": [0, 1, 102, 0, 10, HELD, 0],
            "messages": [GIFT, GIFT, GOT]})

    def test_not_even_sent(self):
        self.check_clear(LAID + ((ARM, 1), (GIVE, 0, 101, 1)), [0, 1, 0], {
            "paper 0": [2, 2] + OVER_101 + [102, 0, 10, SETTLED, 1], "paper 1": [0, 1, 102, 0, 10, HELD, 0],
            "messages": [GIFT, GOT]})

    def test_heard_but_not_settled(self):
        self.check_clear(GAVE + ((HEAR, 0),), [0, 1, 0], {
            "paper 0": [2, 2] + OVER_101 + [102, 0, 10, SETTLED, 1], "messages": [GIFT, GOT, GIFT, GOT]})

    def test_heard_but_not_answered(self):
        self.check_clear(GAVE + ((ARM, 1), (HEAR, 0)), [0, 1, 0], {
            "paper 0": [2, 2] + OVER_101 + [102, 0, 10, SETTLED, 1], "messages": [GIFT, GIFT, GOT]})

    def test_heard_and_used_or_split(self):
        for call in ((USE, 1, 102), (SPLIT, 1, 102, 3)):
            self.check_clear(GAVE + ((HEAR, 0), (COME, 1, 1), call), [0, 1, 0], {
                "paper 0": [2, 2] + OVER_101 + [102, 0, 10, SETTLED, 1], "messages": [GIFT, GOT, GIFT, GOT]})

    def test_refused_by_an_ask(self):
        self.check_clear(ASKED + ((HEAR, 1),), [0, 1, 0], {
            "paper 0": [2, 2] + OVER_101 + [102, 0, 10, HELD, 1], "messages": [GIFT, ASKING, REFUSAL, GIFT, REFUSAL]})

    def test_asked_but_the_ask_not_heard(self):
        self.check_clear(ASKED, [0, 1, 0], {
            "paper 0": [2, 2] + OVER_101 + [102, 0, 10, SETTLED, 1], "paper 1": [0, 1, 102, 0, 10, HELD, 0],
            "messages": [GIFT, ASKING, GIFT, GOT]})
        self.assertEqual(told(*ASKED, (CLEAR,), (HEAR, 1), (MESSAGE, 4))[-2:], [[0, 4], GOT])

    def test_settled_or_taken_back_is_left_alone(self):
        self.check_clear(GAVE + ((HEAR, 0), (HEAR, 1)), [0, 0, 0], {})
        self.check_clear(ASKED + ((HEAR, 1), (HEAR, 2)), [0, 0, 0], {})

    def test_given_on_before_it_was_settled(self):
        calls = GAVE + ((HEAR, 0), (GIVE, 1, 102, 0))
        self.check_clear(calls, [0, 2, 0], {
            "paper 0": [2, 3] + OVER_101 + [102, 0, 10, SETTLED, 1, 201, 0, 10, HELD, 1],
            "paper 1": [1, 2, 102, 0, 10, OVER, 0, 201, 0, 10, SETTLED, 0],
            "messages": [
                GIFT, GOT, [GIFT_MESSAGE, 1, 0, 201, 0, 10], GIFT, GOT,
                [GIFT_MESSAGE, 1, 0, 201, 0, 10], [GOT_MESSAGE, 0, 1, 201, 0, 10]]})

    def test_where_parties_are_does_not_matter(self):
        self.assertEqual(last_told(*GAVE, (COME, 0, 0), (CLEAR,)), [0, 1, 0])


class ClearSeveral(unittest.TestCase):
    CALLS = (
        (BEGIN, 3, 2), (COME, 2, 2), (LAY, 2, 30), (GIVE, 2, 301, 0),
        (COME, 0, 1), (LAY, 0, 1), (LAY, 0, 2), (LAY, 0, 3), (LAY, 0, 4),
        (GIVE, 0, 103, 1), (GIVE, 0, 101, 2), (GIVE, 0, 102, 1), (GIVE, 0, 104, 2),
        (COME, 1, 1), (LAY, 1, 20), (GIVE, 1, 201, 2),
        # Of party 0's: 105 is heard, 106 refused, 107 neither, 108 settled. Messages 0 to 5 are the gifts.
        (HEAR, 1), (ASK, 0, 106), (HEAR, 7), (HEAR, 4), (HEAR, 9),
    )

    def test_by_parties_in_their_papers_order(self):
        rows = told(*self.CALLS, (CLEAR,), (AIR,), *[(MESSAGE, m) for m in range(10, 20)])[len(self.CALLS):]
        self.assertEqual(rows, [
            [0, 5, 0], [20, -1, 60, 0, 0, 0],
            [GIFT_MESSAGE, 0, 1, 105, 0, 3], [GOT_MESSAGE, 1, 0, 105, 0, 3],
            [GIFT_MESSAGE, 0, 2, 106, 0, 1], [REFUSED_MESSAGE, 2, 0, 106, 0, 1],
            [GIFT_MESSAGE, 0, 1, 107, 0, 2], [GOT_MESSAGE, 1, 0, 107, 0, 2],
            [GIFT_MESSAGE, 1, 2, 202, 0, 20], [GOT_MESSAGE, 2, 1, 202, 0, 20],
            [GIFT_MESSAGE, 2, 0, 302, 1, 30], [GOT_MESSAGE, 0, 2, 302, 1, 30]])

    def test_papers(self):
        rows = told(*self.CALLS, (CLEAR,), (PAPER, 0), (PAPER, 1), (PAPER, 2))[-3:]
        self.assertEqual(rows[0], [
            8, 9, 101, 0, 1, OVER, 0, 102, 0, 2, OVER, 0, 103, 0, 3, OVER, 0, 104, 0, 4, OVER, 0,
            105, 0, 3, SETTLED, 1, 106, 0, 1, HELD, 2, 107, 0, 2, SETTLED, 1, 108, 0, 4, SETTLED, 2,
            302, 1, 30, HELD, 2])
        self.assertEqual(rows[1], [
            2, 4, 201, 0, 20, OVER, 1, 202, 0, 20, SETTLED, 2, 105, 0, 3, HELD, 0, 107, 0, 2, HELD, 0])
        self.assertEqual(rows[2], [
            2, 5, 301, 1, 30, OVER, 2, 302, 1, 30, SETTLED, 0, 106, 0, 1, REFUSED, 0, 108, 0, 4, HELD, 0,
            202, 0, 20, HELD, 1])

    def test_nothing_is_under_way_behind_it(self):
        rows = told(*self.CALLS, (AUDIT, 0), (AUDIT, 1), (CLEAR,), (AUDIT, 0), (AUDIT, 1))
        self.assertEqual(rows[-5:], [[7, 23, 30], [0, 30, 30], [0, 5, 0], [30, 0, 30], [30, 0, 30]])


class ClearRefused(unittest.TestCase):
    def test_minus_4_while_armed(self):
        for armed in (0, 1, 1000):
            world = world_after(*GAVE, (ARM, armed))
            before = seen(world)
            self.assertEqual(last_told(*GAVE, (ARM, armed), (CLEAR,)), [-4])
            self.assertEqual(last_told(*LAID, (ARM, armed), (CLEAR,)), [-4])
            check_refused(self, world, (CLEAR,), -4)
            self.assertEqual(seen(world)[:4], before[:4])
            self.assertEqual(last_told(*GAVE, (ARM, armed), (CLEAR,), (AIR,)), [1, armed, 10, 0, 0])

    def test_no_more_armed(self):
        self.assertEqual(last_told(*GAVE, (ARM, 0), (DISARM,), (CLEAR,)), [0, 1, 0])
        self.assertEqual(last_told(*GAVE, (ARM, 0), (AGAIN, 0, 102), (CLEAR,)), [0, 1, 0])
        self.assertEqual(last_told(*GAVE, (ARM, 1), (AGAIN, 0, 102), (CLEAR,)), [-4])

    def test_minus_2(self):
        self.assertEqual(told((CLEAR,), (BEGIN, 1, 1), (CLEAR,)), [[-2], [0], [0, 0, 0]])

    def test_the_limit_just_kept(self):
        # 390 messages, then 3 gifts and one sent again: 394, and 2 for each of 3 gifts are 400.
        calls = FILLED + tuple((GIVE, 1, number, 2) for number in (151, 152, 153)) + ((AGAIN, 1, 241),)
        rows = told(*calls, (AIR,), (CLEAR,), (AIR,), (MESSAGE, 399), (ENTRY, 1, 243), (ENTRY, 2, 243))
        self.assertLessEqual(len(calls) + 6, 200)
        self.assertEqual(rows[-6:], [
            [394, -1, 10, 0, 0, 0], [0, 3, 0], [400, -1, 10, 0, 0, 0], [GOT_MESSAGE, 2, 1, 243, 0, 1],
            [243, 0, 1, SETTLED, 2], [243, 0, 1, HELD, 1]])

    def test_the_limit_just_passed(self):
        calls = FILLED + tuple((GIVE, 1, number, 2) for number in (151, 152, 153)) + ((AGAIN, 1, 241),) * 2
        rows = told(*calls, (AIR,), (CLEAR,), (AIR,), (ENTRY, 1, 241), (PAPER, 2))
        self.assertEqual(rows[-5:-1], [
            [395, -1, 10, 0, 0, 0], [-7], [395, -1, 10, 0, 0, 0], [241, 0, 1, GIVEN, 2]])
        self.assertEqual(rows[-1], last_told(*FILLED, (PAPER, 2)))

    def test_the_limit_counts_by_gifts(self):
        # Each gift is sent once by give, and would have 2 more messages sent by clear.
        for gifts, answer in ((2, [0, 2, 0]), (3, [0, 3, 0]), (4, [-7]), (5, [-7]), (10, [-7])):
            calls = FILLED + tuple((GIVE, 1, 151 + at, 2) for at in range(gifts))
            self.assertEqual(last_told(*calls, (CLEAR,)), answer)

    def test_settling_by_hand_makes_room(self):
        # 394 messages and 4 gifts; then 395 and 3, one more than there may be; then 396 and 2.
        calls = FILLED + tuple((GIVE, 1, 151 + at, 2) for at in range(4))
        self.assertEqual(told(*calls, (HEAR, 390), (HEAR, 394), (CLEAR,))[-3:], [[0, 394], [0, -1], [-7]])
        more = calls + ((HEAR, 390), (HEAR, 394), (HEAR, 391), (HEAR, 395))
        self.assertEqual(told(*more, (CLEAR,), (AIR,))[-2:], [[0, 2, 0], [400, -1, 10, 0, 0, 0]])

    def test_minus_4_goes_ahead_of_minus_7(self):
        calls = FILLED + tuple((GIVE, 1, 151 + at, 2) for at in range(4))
        self.assertEqual(told(*calls, (ARM, 0), (CLEAR,), (DISARM,), (CLEAR,))[-4:], [[0], [-4], [0], [-7]])

    def test_four_hundred_messages(self):
        calls = FILLED + tuple((GIVE, 1, 151 + at, 2) for at in range(10))
        rows = told(*calls, (AIR,), (CLEAR,), (AGAIN, 1, 241), (ASK, 1, 241), (HEAR, 399), (HEAR, 0), (MESSAGE, 399))
        self.assertLessEqual(len(calls) + 7, 200)
        self.assertEqual(rows[-7:], [
            [400, -1, 10, 0, 0, 0], [-7], [-7], [-7], [-7], [-7], [GIFT_MESSAGE, 1, 2, 250, 0, 1]])

    def test_four_hundred_messages_and_nothing_to_settle(self):
        calls = FILLED + tuple((GIVE, 1, number, 2) for number in (151, 152, 153)) + ((AGAIN, 1, 241), (CLEAR,))
        rows = told(*calls, (CLEAR,), (GIVE, 1, 154, 2), (AIR,))
        self.assertEqual(rows[-3:], [[0, 0, 0], [-7], [400, -1, 10, 0, 0, 0]])


if __name__ == "__main__":
    unittest.main()
