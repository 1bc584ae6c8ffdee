"""The calls that only tell: paper, tin, counts, message, audit, entry, air."""

import unittest

from tests.helper import AGAIN, AIR, ARM, ASK, AUDIT, BEGIN, COME, COUNTS, ENTRY, GIVE, HEAR, JOIN, LAY
from tests.helper import LOOK, MESSAGE, PAPER, SPLIT, TIN, USE
from tests.helper import BEING_LAID, BEING_USED, GIVEN, HELD, OVER, REFUSED, SETTLED, USED
from tests.helper import ASK_MESSAGE, GIFT_MESSAGE, GOT_MESSAGE, REFUSED_MESSAGE
from tests.helper import check_refused, last_told, seen, say, told, world_after


def every_mark(d):
    """Party 0 comes to depot d and brings its entries there, as 19 new ones, into every mark that it can."""
    first = 101 + 19 * d
    at = 8 * d
    return (
        (COME, 0, d + 1),
        (LAY, 0, 1),                                                # + 0: held
        (LAY, 0, 2), (USE, 0, first + 1),                           # + 1: used
        (ARM, 1), (LAY, 0, 4),                                      # + 2: being laid, not in the tin
        (ARM, 2), (LAY, 0, 8),                                      # + 3: being laid, in the tin
        (LAY, 0, 16), (ARM, 1), (USE, 0, first + 4),                # + 4: being used, not taken out
        (LAY, 0, 32), (ARM, 2), (USE, 0, first + 5),                # + 5: being used, taken out
        (LAY, 0, 64), (GIVE, 0, first + 6, 1),                      # + 7: given, not heard
        (LAY, 0, 128), (GIVE, 0, first + 8, 1), (HEAR, at + 1),     # + 9: given, heard
        (LAY, 0, 256), (GIVE, 0, first + 10, 2), (ASK, 0, first + 11), (HEAR, at + 4),  # + 11: given, refused
        (LAY, 0, 512), (GIVE, 0, first + 12, 2), (HEAR, at + 6), (HEAR, at + 7),        # + 13: settled
        (LAY, 0, 600), (SPLIT, 0, first + 14, 100), (JOIN, 0, first + 15, first + 16),  # + 17: held
        (ARM, 1), (GIVE, 0, first + 17, 1),                         # + 18: given, not even sent
    )


STORY = ((BEGIN, 3, 3),) + every_mark(0) + ((COME, 1, 1), (COME, 2, 2))
TWO_DEPOTS = STORY + every_mark(1)

PAPER_0 = [
    [101, 0, 1, HELD, 0], [102, 0, 2, USED, 0], [103, 0, 4, BEING_LAID, 0], [104, 0, 8, BEING_LAID, 0],
    [105, 0, 16, BEING_USED, 0], [106, 0, 32, BEING_USED, 0], [107, 0, 64, OVER, 0], [108, 0, 64, GIVEN, 1],
    [109, 0, 128, OVER, 0], [110, 0, 128, GIVEN, 1], [111, 0, 256, OVER, 0], [112, 0, 256, GIVEN, 2],
    [113, 0, 512, OVER, 0], [114, 0, 512, SETTLED, 2], [115, 0, 600, OVER, 0], [116, 0, 100, OVER, 0],
    [117, 0, 500, OVER, 0], [118, 0, 600, OVER, 0], [119, 0, 600, GIVEN, 1],
]
LAID_0 = [101, 102, 104, 105, 106, 107, 109, 111, 113, 115]
FOOD = 1 + 8 + 16 + 64 + 128 + 256 + 512 + 600
MESSAGES = [
    [GIFT_MESSAGE, 0, 1, 108, 0, 64], [GIFT_MESSAGE, 0, 1, 110, 0, 128], [GOT_MESSAGE, 1, 0, 110, 0, 128],
    [GIFT_MESSAGE, 0, 2, 112, 0, 256], [ASK_MESSAGE, 0, 2, 112, 0, 256], [REFUSED_MESSAGE, 2, 0, 112, 0, 256],
    [GIFT_MESSAGE, 0, 2, 114, 0, 512], [GOT_MESSAGE, 2, 0, 114, 0, 512],
]
GAVE = ((BEGIN, 2, 2), (COME, 0, 2), (LAY, 0, 10), (GIVE, 0, 101, 1))


class Telling(unittest.TestCase):
    def check_changes_nothing(self, *rows):
        world = world_after(*GAVE)
        for armed in (-1, 0, 5):
            world.armed = armed
            for row in rows:
                before = seen(world)
                say(world, *row)
                self.assertEqual(seen(world), before)

    def test_they_change_nothing(self):
        self.check_changes_nothing(
            (PAPER, 0), (TIN, 1), (COUNTS, 0, 1), (MESSAGE, 0), (AUDIT, 1), (ENTRY, 0, 102), (AIR,))

    def test_what_was_told_stays_as_it_was(self):
        world = world_after(*GAVE)
        rows = [say(world, PAPER, 0), say(world, TIN, 1), say(world, AIR)]
        copies = [list(row) for row in rows]
        for call in ((LAY, 0, 5), (USE, 0, 103), (HEAR, 0), (HEAR, 1)):
            say(world, *call)
        self.assertEqual(rows, copies)


class Paper(unittest.TestCase):
    def test_empty(self):
        self.assertEqual(told((BEGIN, 2, 1), (PAPER, 0), (PAPER, 1))[1:], [[0, 0], [0, 0]])

    def test_entries_in_the_order_of_their_writing(self):
        self.assertEqual(last_told(*STORY, (PAPER, 0)), [19, 19] + sum(PAPER_0, []))

    def test_made_counts_only_own_numbers(self):
        self.assertEqual(last_told(*STORY, (PAPER, 1)), [0, 1, 110, 0, 128, HELD, 0])
        self.assertEqual(last_told(*STORY, (PAPER, 2)), [0, 2, 112, 0, 256, REFUSED, 0, 114, 0, 512, HELD, 0])
        more = (*STORY, (LAY, 1, 3), (GIVE, 1, 201, 0), (HEAR, 8))
        self.assertEqual(last_told(*more, (PAPER, 1)), [
            2, 3, 110, 0, 128, HELD, 0, 201, 0, 3, OVER, 1, 202, 0, 3, GIVEN, 0])
        self.assertEqual(last_told(*more, (PAPER, 0)), [19, 20] + sum(PAPER_0, []) + [202, 0, 3, HELD, 1])

    def test_sixty_made(self):
        calls = [(BEGIN, 1, 1), (COME, 0, 1)] + [(LAY, 0, 1)] * 61
        rows = [[101 + at, 0, 1, HELD, 0] for at in range(60)]
        self.assertEqual(told(*calls, (PAPER, 0))[-2:], [[-5], [60, 60] + sum(rows, [])])


class TellEntry(unittest.TestCase):
    def test_each_entry(self):
        rows = told(*STORY, *[(ENTRY, 0, row[0]) for row in PAPER_0])[len(STORY):]
        self.assertEqual(rows, PAPER_0)

    def test_an_entry_that_came(self):
        self.assertEqual(last_told(*STORY, (ENTRY, 1, 110)), [110, 0, 128, HELD, 0])
        self.assertEqual(last_told(*STORY, (ENTRY, 2, 112)), [112, 0, 256, REFUSED, 0])

    def test_minus_4_without_entry(self):
        world = world_after(*GAVE)
        for p, i in ((0, 100), (0, 103), (0, 201), (0, 799), (1, 101), (1, 102)):
            check_refused(self, world, (ENTRY, p, i), -4)


class TellTin(unittest.TestCase):
    def test_empty(self):
        self.assertEqual(last_told((BEGIN, 1, 1), (TIN, 0)), [0, 0, 0])

    def test_food_laid_and_used(self):
        self.assertEqual(last_told(*STORY, (TIN, 0)), [FOOD, 10] + LAID_0 + [2, 102, 106])
        self.assertEqual(told(*STORY, (TIN, 1), (TIN, 2))[-2:], [[0, 0, 0]] * 2)

    def test_numbers_stand_in_the_order_of_their_putting_in(self):
        calls = ((BEGIN, 2, 1), (COME, 0, 1), (COME, 1, 1), (LAY, 1, 5), (LAY, 0, 6), (LAY, 1, 7), (USE, 1, 202))
        calls += ((USE, 0, 101), (USE, 1, 201))
        self.assertEqual(last_told(*calls, (TIN, 0)), [0, 3, 201, 101, 202, 3, 202, 101, 201])

    def test_what_was_given_is_used_under_its_new_number(self):
        calls = GAVE + ((HEAR, 0), (COME, 1, 2), (USE, 1, 102))
        self.assertEqual(last_told(*calls, (TIN, 1)), [0, 1, 101, 1, 102])


class Counts(unittest.TestCase):
    def test_only_held_entries_count(self):
        rows = told(*STORY, (COUNTS, 0, 0), (COUNTS, 1, 0), (COUNTS, 2, 0))
        self.assertEqual(rows[-3:], [[1], [128], [512]])

    def test_only_those_of_the_depot_count(self):
        calls = TWO_DEPOTS + ((LAY, 0, 1000), (COME, 2, 1), (LAY, 2, 10), (LAY, 2, 20))
        rows = told(*calls, *[(COUNTS, p, d) for p in range(3) for d in range(3)])
        self.assertEqual(sum(rows[-9:], []), [1, 1001, 0, 128, 128, 0, 542, 512, 0])

    def test_the_party_may_be_anywhere(self):
        for place in range(3):
            self.assertEqual(last_told(*GAVE[:3], (COME, 0, place), (COUNTS, 0, 1)), [10])

    def test_a_refused_gift_counts_again(self):
        calls = GAVE + ((ASK, 0, 102), (HEAR, 1))
        self.assertEqual(told(*calls, (COUNTS, 0, 1), (HEAR, 2), (COUNTS, 0, 1))[-3:], [[0], [0, -1], [10]])


class TellMessage(unittest.TestCase):
    def test_each_message(self):
        rows = told(*STORY, *[(MESSAGE, m) for m in range(8)])[len(STORY):]
        self.assertEqual(rows, MESSAGES)

    def test_minus_4_without_message(self):
        check_refused(self, world_after((BEGIN, 2, 1)), (MESSAGE, 0), -4)
        for m in (1, 2, 399):
            check_refused(self, world_after(*GAVE), (MESSAGE, m), -4)

    def test_a_message_stays_as_it_was_sent(self):
        calls = GAVE + ((HEAR, 0), (HEAR, 0), (HEAR, 1), (COME, 1, 2), (USE, 1, 102))
        self.assertEqual(last_told(*calls, (MESSAGE, 0)), [GIFT_MESSAGE, 0, 1, 102, 1, 10])


class Audit(unittest.TestCase):
    ALIVE = 1 + 8 + 16 + 128 + 512
    UNDER_WAY = 64 + 256 + 600

    def test_entries_of_every_mark(self):
        self.assertEqual(last_told(*STORY, (AUDIT, 0)), [self.ALIVE, self.UNDER_WAY, FOOD])
        self.assertEqual(told(*STORY, (AUDIT, 1), (AUDIT, 2))[-2:], [[0, 0, 0]] * 2)

    def test_two_depots(self):
        calls = TWO_DEPOTS + ((LAY, 0, 1000), (COME, 0, 1))
        rows = told(*calls, (AUDIT, 0), (AUDIT, 1), (AUDIT, 2))
        self.assertEqual(rows[-3:], [
            [self.ALIVE, self.UNDER_WAY, FOOD], [self.ALIVE + 1000, self.UNDER_WAY, FOOD + 1000], [0, 0, 0]])

    def test_each_mark_alone(self):
        laid = ((BEGIN, 2, 1), (COME, 0, 1), (LAY, 0, 10))
        gave = laid + ((GIVE, 0, 101, 1),)
        asked = gave + ((ASK, 0, 102), (HEAR, 1))
        for calls, row in (
                (laid[:2] + ((ARM, 1), (LAY, 0, 10)), [0, 0, 0]), (laid[:2] + ((ARM, 2), (LAY, 0, 10)), [10, 0, 10]),
                (laid, [10, 0, 10]), (laid + ((ARM, 1), (USE, 0, 101)), [10, 0, 10]),
                (laid + ((ARM, 2), (USE, 0, 101)), [0, 0, 0]), (laid + ((USE, 0, 101),), [0, 0, 0]),
                (gave, [0, 10, 10]), (gave + ((HEAR, 0),), [10, 0, 10]),
                (gave + ((HEAR, 0), (HEAR, 1)), [10, 0, 10]), (asked, [0, 10, 10]),
                (asked + ((HEAR, 2),), [10, 0, 10]), (asked + ((HEAR, 0), (HEAR, 2)), [10, 0, 10])):
            with self.subTest(calls=calls):
                self.assertEqual(last_told(*calls, (AUDIT, 0)), row)

    def test_not_under_way_where_the_other_has_it_in_any_mark_but_refused(self):
        heard = ((BEGIN, 3, 1), (COME, 0, 1), (COME, 1, 1), (LAY, 0, 10), (GIVE, 0, 101, 1), (HEAR, 0))
        for calls, row in (
                (((USE, 1, 102),), [0, 0, 0]), (((ARM, 1), (USE, 1, 102)), [10, 0, 10]),
                (((ARM, 2), (USE, 1, 102)), [0, 0, 0]), (((SPLIT, 1, 102, 4),), [10, 0, 10]),
                (((SPLIT, 1, 102, 4), (USE, 1, 201)), [6, 0, 6]), (((GIVE, 1, 102, 2),), [0, 10, 10]),
                (((GIVE, 1, 102, 0), (HEAR, 2)), [10, 0, 10]), (((AGAIN, 0, 102), (HEAR, 2)), [10, 0, 10])):
            with self.subTest(calls=calls):
                self.assertEqual(last_told(*heard, *calls, (AUDIT, 0)), row)


class Air(unittest.TestCase):
    def test_at_first(self):
        for parties in range(1, 7):
            self.assertEqual(last_told((BEGIN, parties, 1), (AIR,)), [0, -1, 0] + [0] * parties)

    def test_messages_and_rations(self):
        laid = FOOD + 2 + 32
        self.assertEqual(last_told(*STORY, (AIR,)), [8, -1, laid, 34, 0, 0])
        self.assertEqual(last_told(*TWO_DEPOTS, (AIR,)), [16, -1, 2 * laid, 68, 0, 0])
        self.assertEqual(last_told(*STORY, (USE, 1, 110), (ARM, 6), (AIR,)), [8, 6, laid, 34, 128, 0])

    def test_laid_stays_when_food_is_eaten(self):
        calls = ((BEGIN, 2, 2), (COME, 1, 1), (LAY, 1, 7), (USE, 1, 201), (COME, 1, 2), (LAY, 1, 8), (USE, 1, 202))
        self.assertEqual(last_told(*calls, (AIR,)), [0, -1, 15, 0, 15])


class BeginAgain(unittest.TestCase):
    def test_everything_is_set_anew(self):
        calls = TWO_DEPOTS + ((USE, 1, 110), (ARM, 0), (BEGIN, 3, 3))
        looks = [(PAPER, 0), (PAPER, 1), (PAPER, 2), (TIN, 0), (TIN, 1), (TIN, 2), (AUDIT, 0), (COUNTS, 2, 0)]
        rows = told(*calls, *looks, (MESSAGE, 0), (HEAR, 0), (ENTRY, 0, 101), (AIR,))[len(calls) - 1:]
        self.assertEqual(rows, [[0]] + [[0, 0]] * 3 + [[0, 0, 0]] * 4 + [[0]] + [[-4]] * 3 + [[0, -1, 0, 0, 0, 0]])

    def test_all_are_away(self):
        calls = STORY + ((BEGIN, 3, 3),)
        self.assertEqual(told(*calls, (LAY, 0, 1), (LOOK, 1), (LOOK, 2))[-3:], [[-4]] * 3)

    def test_numbers_are_made_from_the_first_again(self):
        calls = STORY + ((BEGIN, 3, 3), (COME, 0, 1))
        self.assertEqual(told(*calls, (LAY, 0, 9), (GIVE, 0, 101, 1), (AIR,))[-3:], [
            [0, 101], [0, 102, 0], [1, -1, 9, 0, 0, 0]])

    def test_with_other_numbers_of_parties_and_depots(self):
        rows = told(*STORY, (BEGIN, 1, 1), (PAPER, 1), (TIN, 1), (AIR,), (BEGIN, 6, 6), (PAPER, 5), (TIN, 5), (AIR,))
        self.assertEqual(rows[-7:], [[-3], [-3], [0, -1, 0, 0], [0], [0, 0], [0, 0, 0], [0, -1, 0] + [0] * 6])

    def test_a_refused_begin_sets_nothing(self):
        self.assertEqual(last_told(*GAVE, (ARM, 4), (BEGIN, 0, 1), (AIR,)), [1, 4, 10, 0, 0])


if __name__ == "__main__":
    unittest.main()
