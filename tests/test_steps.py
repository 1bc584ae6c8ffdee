"""Small steps: what has been done, and what not, when a call is cut off ahead of each of them."""

import unittest

from radiofood.world import World
from tests.helper import AGAIN, ASK, BEGIN, COME, GIVE, HEAR, JOIN, LAY, LOOK, SPLIT, USE
from tests.helper import BEING_LAID, BEING_USED, GIVEN, HELD, OVER, REFUSED, SETTLED, USED
from tests.helper import marks, messages, paper, say, seen, tin, world_after

LAID = ((BEGIN, 2, 1), (COME, 0, 1), (LAY, 0, 10))
GAVE = LAID + ((GIVE, 0, 101, 1),)
ASKED = GAVE + ((ASK, 0, 102),)


class Steps(unittest.TestCase):
    def cut(self, calls, call, done):
        """The object in which the call was cut off when so many of its steps were done."""
        world = world_after(*calls)
        world.armed = done
        self.assertEqual(say(world, *call), [1])
        self.assertEqual(world.armed, -1)
        return world

    def check_steps(self, calls, call, steps):
        """The call has just so many steps; cut off ahead of the first, nothing is done."""
        before = seen(world_after(*calls))
        self.assertEqual(seen(self.cut(calls, call, 0))[:4], before[:4])
        whole = world_after(*calls, call)
        for spare in (0, 1, 1000):
            world = world_after(*calls)
            world.armed = steps + spare
            self.assertEqual(say(world, *call)[0], 0)
            self.assertEqual(world.armed, spare)
            self.assertEqual(seen(world)[:4], seen(whole)[:4])

    def test_lay(self):
        calls, call = LAID[:2], (LAY, 0, 10)
        self.check_steps(calls, call, 3)
        world = self.cut(calls, call, 1)
        self.assertEqual(paper(world, 0), [(101, 0, 10, BEING_LAID, 0)])
        self.assertEqual((world.parties[0].made, tin(world, 0), world.rations_laid), (1, (0, [], []), 0))
        self.assertEqual(say(world, LAY, 0, 1), [0, 102])
        world = self.cut(calls, call, 2)
        self.assertEqual(paper(world, 0), [(101, 0, 10, BEING_LAID, 0)])
        self.assertEqual((world.parties[0].made, tin(world, 0), world.rations_laid), (1, (10, [101], []), 10))

    def test_use(self):
        call = (USE, 0, 101)
        self.check_steps(LAID, call, 3)
        world = self.cut(LAID, call, 1)
        self.assertEqual(marks(world, 0), {101: BEING_USED})
        self.assertEqual((world.parties[0].eaten, tin(world, 0)), (0, (10, [101], [])))
        world = self.cut(LAID, call, 2)
        self.assertEqual(marks(world, 0), {101: BEING_USED})
        self.assertEqual((world.parties[0].eaten, tin(world, 0)), (10, (0, [101], [101])))

    def test_give(self):
        call = (GIVE, 0, 101, 1)
        self.check_steps(LAID, call, 2)
        world = self.cut(LAID, call, 1)
        self.assertEqual(paper(world, 0), [(101, 0, 10, OVER, 0), (102, 0, 10, GIVEN, 1)])
        self.assertEqual((world.parties[0].made, messages(world)), (2, []))
        self.assertEqual(say(world, AGAIN, 0, 102), [0, 0])

    def test_calls_of_one_step(self):
        self.check_steps(LAID, (SPLIT, 0, 101, 1), 1)
        self.check_steps(LAID + ((LAY, 0, 1),), (JOIN, 0, 101, 102), 1)
        self.check_steps(GAVE, (AGAIN, 0, 102), 1)
        self.check_steps(GAVE, (ASK, 0, 102), 1)

    def test_hear_gift(self):
        self.check_steps(GAVE, (HEAR, 0), 2)
        world = self.cut(GAVE, (HEAR, 0), 1)
        self.assertEqual((paper(world, 1), len(world.messages)), ([(102, 0, 10, HELD, 0)], 1))
        self.check_steps(GAVE + ((HEAR, 0),), (HEAR, 0), 1)
        self.check_steps(ASKED + ((HEAR, 1),), (HEAR, 0), 1)

    def test_hear_ask(self):
        self.check_steps(ASKED, (HEAR, 1), 2)
        world = self.cut(ASKED, (HEAR, 1), 1)
        self.assertEqual((paper(world, 1), len(world.messages)), ([(102, 0, 10, REFUSED, 0)], 2))
        self.check_steps(ASKED + ((HEAR, 0),), (HEAR, 1), 1)
        self.check_steps(ASKED + ((HEAR, 1),), (HEAR, 1), 1)

    def test_hear_got_and_refused(self):
        self.check_steps(GAVE + ((HEAR, 0),), (HEAR, 1), 1)
        self.check_steps(ASKED + ((HEAR, 1),), (HEAR, 2), 1)
        self.assertEqual(marks(world_after(*GAVE, (HEAR, 0), (HEAR, 1)), 0), {101: OVER, 102: SETTLED})

    def test_look(self):
        world = self.cut(LAID, (USE, 0, 101), 2)
        for armed in (1, 2):
            world.armed = armed
            self.assertEqual(say(world, LAY, 0, 5), [1])
        world.armed = 2
        self.assertEqual(say(world, LOOK, 0), [1])
        self.assertEqual(marks(world, 0), {101: USED, 102: OVER, 103: BEING_LAID})
        world.armed = 0
        self.assertEqual(say(world, LOOK, 0), [1])
        self.assertEqual(marks(world, 0)[103], BEING_LAID)
        world.armed = 1
        self.assertEqual(say(world, LOOK, 0), [0, 2, 103, HELD])
        self.assertEqual(world.armed, 0)

    def test_calls_without_steps_are_not_touched(self):
        settled = GAVE + ((HEAR, 0), (HEAR, 1))
        for calls, call, answer in (
                (LAID, (COME, 0, 0), [0]), (LAID, (LOOK, 0), [0, 0]), (settled, (HEAR, 1), [0, -1]),
                (ASKED + ((HEAR, 1), (HEAR, 2)), (HEAR, 2), [0, -1])):
            world = world_after(*calls)
            world.armed = 0
            self.assertEqual(say(world, *call), answer)
            self.assertEqual(world.armed, 0)

    def test_arming_is_counted_over_several_calls(self):
        world = world_after(*LAID[:2])
        world.armed = 4
        rows = [say(world, LAY, 0, 10), say(world, SPLIT, 0, 101, 1), say(world, SPLIT, 0, 102, 1)]
        self.assertEqual(rows, [[0, 101], [0, 102, 103], [-5]])
        self.assertEqual(say(world, JOIN, 0, 102, 103), [1])
        self.assertEqual(say(world, JOIN, 0, 102, 103), [0, 104])

    def test_begin_disarms(self):
        world = World()
        world.armed = 0
        self.assertEqual(say(world, BEGIN, 1, 1), [0])
        self.assertEqual(world.armed, -1)


if __name__ == "__main__":
    unittest.main()
