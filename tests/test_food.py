"""Points 0 to 4, 9 and 10: begin, come, lay, split, join, use, look."""

import unittest

from tests.helper import BEGIN, COME, GIVE, HEAR, JOIN, LAY, LOOK, SPLIT, USE
from tests.helper import BEING_LAID, BEING_USED, GIVEN, HELD, OVER, REFUSED, SETTLED, USED
from tests.helper import check_refused, last_told, marks, paper, say, seen, tin, told, world_after

NOT_HELD = (BEING_LAID, GIVEN, SETTLED, BEING_USED, USED, OVER, REFUSED)


def here(*calls):
    """An object with two parties and two depots, party 0 at depot 0, behind these calls."""
    return world_after((BEGIN, 2, 2), (COME, 0, 1), *calls)


def set_mark(world, p, number, mark):
    world.parties[p].entry_of(number).mark = mark


class Begin(unittest.TestCase):
    def test_all_is_empty(self):
        world = world_after((BEGIN, 3, 2))
        parties = [(0, -1, 0, 0), (1, -1, 0, 0), (2, -1, 0, 0)]
        self.assertEqual(seen(world), (parties, [[], [], []], [(0, [], []), (0, [], [])], [], -1, 0))

    def test_whatever_was(self):
        world = here((LAY, 0, 10), (LAY, 0, 9), (USE, 0, 102), (GIVE, 0, 101, 1), (HEAR, 0))
        world.armed = 0
        self.assertEqual(say(world, BEGIN, 6, 1), [0])
        self.assertEqual(seen(world), seen(world_after((BEGIN, 6, 1))))

    def test_through_the_interface(self):
        calls = ((BEGIN, 2, 2), (COME, 0, 1), (LAY, 0, 10), (BEGIN, 1, 1), (USE, 0, 101), (LAY, 0, 1), (COME, 0, 1),
                 (LAY, 0, 1), (GIVE, 0, 101, 1), (HEAR, 0), (COME, 1, 0))
        self.assertEqual(told(*calls), [[0], [0], [0, 101], [0], [-4], [-4], [0], [0, 101], [-5], [-4], [-3]])


class Come(unittest.TestCase):
    def test_to_each_depot_and_away(self):
        world = world_after((BEGIN, 2, 6))
        for d in range(1, 7):
            self.assertEqual(say(world, COME, 1, d), [0])
            self.assertEqual([party.place for party in world.parties], [-1, d - 1])
        self.assertEqual(say(world, COME, 1, 0), [0])
        self.assertEqual(seen(world), seen(world_after((BEGIN, 2, 6))))

    def test_no_such_depot(self):
        for depots in range(1, 6):
            world = world_after((BEGIN, 1, depots), (COME, 0, depots))
            check_refused(self, world, (COME, 0, depots + 1), -4)
            check_refused(self, world, (COME, 0, 6), -4)


class Lay(unittest.TestCase):
    def test_writes_and_fills_the_tin(self):
        world = world_after((BEGIN, 6, 2), (COME, 0, 1), (COME, 5, 2))
        self.assertEqual(say(world, LAY, 0, 1), [0, 101])
        self.assertEqual(say(world, LAY, 0, 1000), [0, 102])
        self.assertEqual(say(world, LAY, 5, 7), [0, 601])
        self.assertEqual(paper(world, 0), [(101, 0, 1, HELD, 0), (102, 0, 1000, HELD, 0)])
        self.assertEqual(paper(world, 5), [(601, 1, 7, HELD, 5)])
        self.assertEqual([tin(world, 0), tin(world, 1)], [(1001, [101, 102], []), (7, [601], [])])
        self.assertEqual([party.made for party in world.parties], [2, 0, 0, 0, 0, 1])
        self.assertEqual(world.rations_laid, 1008)

    def test_away(self):
        check_refused(self, world_after((BEGIN, 1, 1)), (LAY, 0, 1), -4)
        check_refused(self, world_after((BEGIN, 1, 1), (COME, 0, 1), (COME, 0, 0)), (LAY, 0, 1), -4)

    def test_sixty_promises(self):
        world = here(*[(LAY, 0, 1)] * 59)
        self.assertEqual(say(world, LAY, 0, 1), [0, 160])
        check_refused(self, world, (LAY, 0, 1), -5)
        say(world, COME, 0, 0)
        check_refused(self, world, (LAY, 0, 1), -4)
        self.assertEqual(last_told((BEGIN, 1, 1), (COME, 0, 1), *[(LAY, 0, 1)] * 61), [-5])

    def test_a_million_rations(self):
        # Fewer are laid by all the promises that can be made, so the count is set here.
        world = here()
        world.rations_laid = 999990
        check_refused(self, world, (LAY, 0, 11), -6)
        world.armed = -1
        self.assertEqual(say(world, LAY, 0, 10), [0, 101])
        self.assertEqual(world.rations_laid, 1000000)
        check_refused(self, world, (LAY, 0, 1), -6)
        world.parties[0].made = 60
        check_refused(self, world, (LAY, 0, 1), -5)
        say(world, COME, 0, 0)
        check_refused(self, world, (LAY, 0, 1), -4)

    def test_eaten_rations_stay_laid(self):
        world = here((LAY, 0, 10), (USE, 0, 101), (LAY, 0, 5))
        self.assertEqual(world.rations_laid, 15)


class Split(unittest.TestCase):
    def test_into_two(self):
        world = here((LAY, 0, 10), (COME, 0, 2))
        before = tin(world, 0)
        self.assertEqual(say(world, SPLIT, 0, 101, 3), [0, 102, 103])
        self.assertEqual(paper(world, 0), [(101, 0, 10, OVER, 0), (102, 0, 3, HELD, 0), (103, 0, 7, HELD, 0)])
        self.assertEqual(world.parties[0].made, 3)
        self.assertEqual(tin(world, 0), before)

    def test_what_came_from_another(self):
        world = here((LAY, 0, 2), (GIVE, 0, 101, 1), (HEAR, 0))
        self.assertEqual(say(world, SPLIT, 1, 102, 1), [0, 201, 202])
        self.assertEqual(paper(world, 1), [(102, 0, 2, OVER, 0), (201, 0, 1, HELD, 1), (202, 0, 1, HELD, 1)])

    def test_not_held(self):
        world = here((LAY, 0, 10))
        check_refused(self, world, (SPLIT, 0, 100, 1), -4)
        check_refused(self, world, (SPLIT, 0, 102, 1), -4)
        check_refused(self, world, (SPLIT, 1, 101, 1), -4)
        for mark in NOT_HELD:
            set_mark(world, 0, 101, mark)
            check_refused(self, world, (SPLIT, 0, 101, 10), -4)

    def test_not_less_than_its_rations(self):
        world = here((LAY, 0, 10), (LAY, 0, 1), (LAY, 0, 1000))
        for call in ((SPLIT, 0, 101, 10), (SPLIT, 0, 101, 11), (SPLIT, 0, 102, 1), (SPLIT, 0, 103, 1000)):
            check_refused(self, world, call, -5)
        world.armed = -1
        self.assertEqual(say(world, SPLIT, 0, 101, 9), [0, 104, 105])
        self.assertEqual(say(world, SPLIT, 0, 103, 999), [0, 106, 107])

    def test_sixty_promises(self):
        calls = [(LAY, 0, 5)] * 58
        self.assertEqual(say(here(*calls), SPLIT, 0, 158, 1), [0, 159, 160])
        for more in (1, 2):
            world = here(*calls, *[(LAY, 0, 5)] * more)
            check_refused(self, world, (SPLIT, 0, 101, 1), -6)
            check_refused(self, world, (SPLIT, 0, 101, 5), -5)
            check_refused(self, world, (SPLIT, 0, 161, 5), -4)


class Join(unittest.TestCase):
    def test_two_into_one(self):
        world = here((LAY, 0, 3), (LAY, 0, 4), (LAY, 0, 1000), (COME, 0, 0))
        before = tin(world, 0)
        self.assertEqual(say(world, JOIN, 0, 102, 101), [0, 104])
        self.assertEqual(say(world, JOIN, 0, 103, 104), [0, 105])
        self.assertEqual(paper(world, 0), [
            (101, 0, 3, OVER, 0), (102, 0, 4, OVER, 0), (103, 0, 1000, OVER, 0), (104, 0, 7, OVER, 0),
            (105, 0, 1007, HELD, 0)])
        self.assertEqual(world.parties[0].made, 5)
        self.assertEqual(tin(world, 0), before)

    def test_with_what_came_from_another(self):
        world = here((LAY, 0, 3), (GIVE, 0, 101, 1), (HEAR, 0), (COME, 1, 1), (LAY, 1, 4))
        self.assertEqual(say(world, JOIN, 1, 102, 201), [0, 202])
        self.assertEqual(paper(world, 1), [(102, 0, 3, OVER, 0), (201, 0, 4, OVER, 1), (202, 0, 7, HELD, 1)])

    def test_not_held(self):
        world = here((LAY, 0, 3), (LAY, 0, 4))
        for call in ((JOIN, 0, 101, 103), (JOIN, 0, 103, 101), (JOIN, 0, 103, 103), (JOIN, 1, 101, 102)):
            check_refused(self, world, call, -4)
        for mark in NOT_HELD:
            set_mark(world, 0, 101, mark)
            for call in ((JOIN, 0, 101, 102), (JOIN, 0, 102, 101), (JOIN, 0, 101, 101)):
                check_refused(self, world, call, -4)

    def test_one_or_of_two_depots(self):
        world = here((LAY, 0, 3), (COME, 0, 2), (LAY, 0, 4))
        for call in ((JOIN, 0, 101, 101), (JOIN, 0, 101, 102), (JOIN, 0, 102, 101)):
            check_refused(self, world, call, -5)

    def test_sixty_promises(self):
        calls = [(LAY, 0, 5)] * 59
        self.assertEqual(say(here(*calls), JOIN, 0, 101, 159), [0, 160])
        world = here(*calls, (COME, 0, 2), (LAY, 0, 5))
        check_refused(self, world, (JOIN, 0, 101, 102), -6)
        check_refused(self, world, (JOIN, 0, 101, 101), -5)
        check_refused(self, world, (JOIN, 0, 101, 160), -5)
        check_refused(self, world, (JOIN, 0, 101, 161), -4)


class Use(unittest.TestCase):
    def test_eats_it(self):
        world = here((LAY, 0, 3), (LAY, 0, 1000))
        self.assertEqual(say(world, USE, 0, 102), [0, 1000])
        self.assertEqual(paper(world, 0), [(101, 0, 3, HELD, 0), (102, 0, 1000, USED, 0)])
        self.assertEqual(tin(world, 0), (3, [101, 102], [102]))
        self.assertEqual(say(world, USE, 0, 101), [0, 3])
        self.assertEqual(tin(world, 0), (0, [101, 102], [102, 101]))
        self.assertEqual([party.eaten for party in world.parties], [1003, 0])
        self.assertEqual([party.made for party in world.parties], [2, 0])

    def test_what_came_from_another(self):
        world = here((LAY, 0, 3), (GIVE, 0, 101, 1), (HEAR, 0), (COME, 1, 1))
        self.assertEqual(say(world, USE, 1, 102), [0, 3])
        self.assertEqual(paper(world, 1), [(102, 0, 3, USED, 0)])
        self.assertEqual(tin(world, 0), (0, [101], [102]))
        self.assertEqual([party.eaten for party in world.parties], [0, 3])

    def test_not_held(self):
        world = here((LAY, 0, 3), (COME, 0, 0))
        for call in ((USE, 0, 102), (USE, 0, 799), (USE, 1, 101)):
            check_refused(self, world, call, -4)
        for mark in NOT_HELD:
            set_mark(world, 0, 101, mark)
            check_refused(self, world, (USE, 0, 101), -4)

    def test_not_at_its_depot(self):
        for d in (0, 2):
            check_refused(self, here((LAY, 0, 3), (COME, 0, d)), (USE, 0, 101), -5)

    def test_twice(self):
        self.assertEqual(last_told((BEGIN, 1, 1), (COME, 0, 1), (LAY, 0, 3), (USE, 0, 101), (USE, 0, 101)), [-4])


class Look(unittest.TestCase):
    def test_nothing_to_look_at(self):
        world = here((LAY, 0, 3), (LAY, 0, 4), (USE, 0, 101), (GIVE, 0, 102, 1))
        before = seen(world)
        self.assertEqual(say(world, LOOK, 0), [0, 0])
        self.assertEqual(seen(world), before)

    def test_other_marks_stay(self):
        world = here((LAY, 0, 3))
        for mark in (HELD, GIVEN, SETTLED, USED, OVER, REFUSED):
            set_mark(world, 0, 101, mark)
            self.assertEqual(say(world, LOOK, 0), [0, 0])
            self.assertEqual(marks(world, 0), {101: mark})

    def test_away(self):
        check_refused(self, world_after((BEGIN, 1, 1)), (LOOK, 0), -4)

    def cut_off_everywhere(self):
        """Depot 0: 101 to 104 cut off while laid or used, with and without the tin; 105 the same at depot 1."""
        world = here((LAY, 0, 1), (LAY, 0, 2))
        for call, armed in (((USE, 0, 101), 1), ((USE, 0, 102), 2), ((LAY, 0, 4), 1), ((LAY, 0, 8), 2)):
            world.armed = armed
            self.assertEqual(say(world, *call), [1])
        say(world, COME, 0, 2)
        world.armed = 1
        self.assertEqual(say(world, LAY, 0, 16), [1])
        say(world, COME, 0, 1)
        return world

    def test_by_the_tin(self):
        world = self.cut_off_everywhere()
        before = [tin(world, 0), tin(world, 1)]
        self.assertEqual(before, [(9, [101, 102, 104], [102]), (0, [], [])])
        self.assertEqual(say(world, LOOK, 0), [0, 8, 101, HELD, 102, USED, 103, OVER, 104, HELD])
        self.assertEqual([tin(world, 0), tin(world, 1)], before)
        self.assertEqual(marks(world, 0), {101: HELD, 102: USED, 103: OVER, 104: HELD, 105: BEING_LAID})
        self.assertEqual(say(world, LOOK, 0), [0, 0])

    def test_only_of_the_depot_where_it_is(self):
        world = self.cut_off_everywhere()
        say(world, COME, 0, 2)
        self.assertEqual(say(world, LOOK, 0), [0, 2, 105, OVER])
        self.assertEqual(marks(world, 0), {
            101: BEING_USED, 102: BEING_USED, 103: BEING_LAID, 104: BEING_LAID, 105: OVER})

    def test_only_of_its_own_paper(self):
        world = self.cut_off_everywhere()
        before = paper(world, 0)
        say(world, COME, 1, 1)
        self.assertEqual(say(world, LOOK, 1), [0, 0])
        self.assertEqual(paper(world, 0), before)


if __name__ == "__main__":
    unittest.main()
