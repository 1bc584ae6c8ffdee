"""The ranges of every argument, and the order of -1, -2, -3 and a call's own refusals."""

import unittest

from tests.helper import AGAIN, AIR, ARM, ASK, AUDIT, BEGIN, CLEAR, COME, COUNTS, DISARM, ENTRY, GIVE, HEAR, JOIN
from tests.helper import LAY, LOOK, MESSAGE, PAPER, SPLIT, TIN, USE
from tests.helper import check_refused, last_told, told, world_after

FARTHEST = (-2 ** 63, 2 ** 63 - 1)

RANGES = {
    BEGIN: ((1, 6), (1, 6)),
    COME: ((0, 5), (0, 6)),
    LAY: ((0, 5), (1, 1000)),
    SPLIT: ((0, 5), (100, 799), (1, 1000)),
    JOIN: ((0, 5), (100, 799), (100, 799)),
    GIVE: ((0, 5), (100, 799), (0, 5)),
    AGAIN: ((0, 5), (100, 799)),
    ASK: ((0, 5), (100, 799)),
    HEAR: ((0, 399),),
    USE: ((0, 5), (100, 799)),
    LOOK: ((0, 5),),
    ARM: ((0, 1000),),
    DISARM: (),
    PAPER: ((0, 5),),
    TIN: ((0, 5),),
    COUNTS: ((0, 5), (0, 5)),
    MESSAGE: ((0, 399),),
    AUDIT: ((0, 5),),
    ENTRY: ((0, 5), (100, 799)),
    CLEAR: (),
    AIR: (),
}
NAME_A_PARTY = (COME, LAY, SPLIT, JOIN, GIVE, AGAIN, ASK, USE, LOOK, PAPER, COUNTS, ENTRY)
# What these answer at the lowest arguments where only begin was called; the others answer -4.
AT_FIRST = {COME: [0], PAPER: [0, 0], COUNTS: [0]}


def lowest(call):
    return [low for low, high in RANGES[call]]


def calls_with(call, choose):
    """The call with one argument after another set to what choose gives for its range, the others in theirs."""
    for at, bounds in enumerate(RANGES[call]):
        for number in choose(*bounds):
            numbers = lowest(call)
            numbers[at] = number
            yield [call] + numbers


def outside(low, high):
    return (low - 1, high + 1) + FARTHEST


def ends(low, high):
    return (low, high)


class Ranges(unittest.TestCase):
    def test_out_of_range_is_minus_1_even_ahead_of_begin(self):
        for call in RANGES:
            for row in calls_with(call, outside):
                with self.subTest(row=row):
                    self.assertEqual(told(row), [[-1]])

    def test_out_of_range_changes_nothing(self):
        for call in RANGES:
            for row in calls_with(call, outside):
                with self.subTest(row=row):
                    world = world_after((BEGIN, 2, 2), (COME, 0, 1), (LAY, 0, 10), (LAY, 0, 5), (GIVE, 0, 102, 1))
                    check_refused(self, world, row, -1)

    def test_all_arguments_out_of_range(self):
        for call in RANGES:
            for number in FARTHEST:
                if RANGES[call]:
                    self.assertEqual(told([call] + [number] * len(RANGES[call])), [[-1]])

    def test_the_ends_of_the_ranges_are_within(self):
        for call in RANGES:
            for row in calls_with(call, ends):
                with self.subTest(row=row):
                    self.assertEqual(told(row), [[0 if call == BEGIN else -2]])

    def test_nothing_has_begun(self):
        for call in RANGES:
            if call != BEGIN:
                self.assertEqual(told([call] + lowest(call)), [[-2]])

    def test_minus_2_leaves_nothing_behind(self):
        self.assertEqual(told((ARM, 0), (BEGIN, 1, 1), (AIR,)), [[-2], [0], [0, -1, 0, 0]])

    def test_nothing_has_begun_behind_a_refused_begin(self):
        self.assertEqual(told((BEGIN, 0, 1), (COME, 0, 0)), [[-1], [-2]])
        self.assertEqual(told((BEGIN, 1, 7), (HEAR, 0)), [[-1], [-2]])

    def test_minus_1_of_a_later_argument_goes_ahead_of_minus_3(self):
        for call in NAME_A_PARTY:
            if len(RANGES[call]) > 1:
                row = [call, 5] + lowest(call)[1:]
                row[-1] = RANGES[call][-1][1] + 1
                self.assertEqual(last_told((BEGIN, 5, 1), row), [-1])

    def test_minus_3_of_a_party_that_is_not_there(self):
        for call in NAME_A_PARTY:
            for parties in range(1, 6):
                world = world_after((BEGIN, parties, 1))
                check_refused(self, world, [call, parties] + lowest(call)[1:], -3)

    def test_the_last_party_is_there(self):
        for call in NAME_A_PARTY:
            for parties in range(1, 7):
                row = [call, parties - 1] + lowest(call)[1:]
                self.assertEqual(last_told((BEGIN, parties, 1), row), AT_FIRST.get(call, [-4]))

    def test_minus_3_goes_ahead_of_a_calls_own(self):
        self.assertEqual(last_told((BEGIN, 1, 1), (COME, 1, 6)), [-3])
        self.assertEqual(last_told((BEGIN, 1, 1), (GIVE, 1, 799, 5)), [-3])
        self.assertEqual(last_told((BEGIN, 1, 1), (COUNTS, 1, 5)), [-3])
        self.assertEqual(last_told((BEGIN, 1, 1), (ENTRY, 1, 799)), [-3])

    def test_a_depot_that_is_not_there(self):
        for depots in range(1, 6):
            world = world_after((BEGIN, 6, depots))
            for d in range(depots, 6):
                check_refused(self, world, (TIN, d), -3)
                check_refused(self, world, (AUDIT, d), -3)
                check_refused(self, world, (COUNTS, 5, d), -4)

    def test_the_last_depot_is_there(self):
        for depots in range(1, 7):
            rows = told((BEGIN, 1, depots), (TIN, depots - 1), (AUDIT, depots - 1), (COUNTS, 0, depots - 1))
            self.assertEqual(rows[1:], [[0, 0, 0], [0, 0, 0], [0]])


if __name__ == "__main__":
    unittest.main()
