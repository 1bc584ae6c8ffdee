"""Points 5 to 8: give, again, ask, hear, and what the document says of messages."""

import unittest

from radiofood.world import Message
from tests.helper import AGAIN, ASK, BEGIN, COME, GIVE, HEAR, JOIN, LAY, SPLIT, USE
from tests.helper import ASK_MESSAGE, GIFT_MESSAGE, GOT_MESSAGE, REFUSED_MESSAGE
from tests.helper import GIVEN, HELD, OVER, REFUSED, SETTLED, USED
from tests.helper import check_refused, last_told, marks, messages, paper, say, seen, told, world_after

ALL_MARKS = range(8)
LAID = ((BEGIN, 3, 2), (COME, 0, 2), (LAY, 0, 10))
GAVE = LAID + ((GIVE, 0, 101, 1),)


def set_mark(world, p, number, mark):
    world.parties[p].entry_of(number).mark = mark


def fill_air(world, how_many):
    """Sends the first message again until there are so many."""
    while len(world.messages) < how_many:
        world.messages.append(world.messages[0])


class Give(unittest.TestCase):
    def test_under_a_new_number(self):
        world = world_after(*LAID)
        self.assertEqual(say(world, GIVE, 0, 101, 2), [0, 102, 0])
        self.assertEqual(paper(world, 0), [(101, 1, 10, OVER, 0), (102, 1, 10, GIVEN, 2)])
        self.assertEqual(messages(world), [(GIFT_MESSAGE, 0, 2, 102, 1, 10)])
        self.assertEqual([party.made for party in world.parties], [2, 0, 0])
        self.assertEqual([paper(world, 1), paper(world, 2)], [[], []])

    def test_numbers_of_messages_go_on(self):
        calls = ((BEGIN, 2, 1), (COME, 0, 1), (LAY, 0, 1), (LAY, 0, 2), (GIVE, 0, 102, 1), (GIVE, 0, 101, 1))
        self.assertEqual(told(*calls)[-2:], [[0, 103, 0], [0, 104, 1]])

    def test_handed_on(self):
        world = world_after(*GAVE, (HEAR, 0))
        self.assertEqual(say(world, GIVE, 1, 102, 0), [0, 201, 2])
        self.assertEqual(paper(world, 1), [(102, 1, 10, OVER, 0), (201, 1, 10, GIVEN, 0)])
        self.assertEqual(say(world, HEAR, 2), [0, 3])
        self.assertEqual(paper(world, 0)[-1], (201, 1, 10, HELD, 1))
        self.assertEqual([party.made for party in world.parties], [2, 1, 0])

    def test_not_held(self):
        world = world_after(*LAID)
        for call in ((GIVE, 0, 102, 0), (GIVE, 0, 100, 5), (GIVE, 1, 101, 2)):
            check_refused(self, world, call, -4)
        for mark in ALL_MARKS[1:]:
            set_mark(world, 0, 101, mark)
            check_refused(self, world, (GIVE, 0, 101, 0), -4)

    def test_to_nobody_or_itself(self):
        for q in (0, 3, 4, 5):
            check_refused(self, world_after(*LAID), (GIVE, 0, 101, q), -5)

    def test_sixty_promises(self):
        calls = LAID + ((LAY, 0, 1),) * 58
        self.assertEqual(say(world_after(*calls), GIVE, 0, 101, 1), [0, 160, 0])
        world = world_after(*calls, (LAY, 0, 1))
        check_refused(self, world, (GIVE, 0, 101, 1), -6)
        check_refused(self, world, (GIVE, 0, 101, 0), -5)
        check_refused(self, world, (GIVE, 0, 161, 0), -4)

    def test_four_hundred_messages(self):
        world = world_after(*GAVE, (LAY, 0, 1), (LAY, 0, 1))
        fill_air(world, 399)
        self.assertEqual(say(world, GIVE, 0, 103, 1), [0, 105, 399])
        check_refused(self, world, (GIVE, 0, 104, 1), -7)
        world.parties[0].made = 60
        check_refused(self, world, (GIVE, 0, 104, 1), -6)
        check_refused(self, world, (GIVE, 0, 104, 3), -5)
        check_refused(self, world, (GIVE, 0, 103, 3), -4)


class AgainAndAsk(unittest.TestCase):
    def test_the_gift_is_sent_again(self):
        world = world_after(*GAVE)
        before = seen(world)
        self.assertEqual(say(world, AGAIN, 0, 102), [0, 1])
        self.assertEqual(say(world, AGAIN, 0, 102), [0, 2])
        self.assertEqual(messages(world), [(GIFT_MESSAGE, 0, 1, 102, 1, 10)] * 3)
        self.assertEqual(seen(world)[:3], before[:3])

    def test_an_ask_is_sent(self):
        world = world_after(*GAVE)
        before = seen(world)
        self.assertEqual(say(world, ASK, 0, 102), [0, 1])
        self.assertEqual(messages(world)[1], (ASK_MESSAGE, 0, 1, 102, 1, 10))
        self.assertEqual(seen(world)[:3], before[:3])

    def test_not_given(self):
        for call in (AGAIN, ASK):
            world = world_after(*GAVE)
            check_refused(self, world, (call, 0, 101), -4)
            check_refused(self, world, (call, 0, 103), -4)
            check_refused(self, world, (call, 1, 102), -4)
            for mark in ALL_MARKS:
                if mark != GIVEN:
                    set_mark(world, 0, 102, mark)
                    check_refused(self, world, (call, 0, 102), -4)

    def test_four_hundred_messages(self):
        for call in (AGAIN, ASK):
            world = world_after(*GAVE)
            fill_air(world, 399)
            self.assertEqual(say(world, call, 0, 102), [0, 399])
            check_refused(self, world, (call, 0, 102), -7)
            check_refused(self, world, (call, 0, 101), -4)


class HearGift(unittest.TestCase):
    def test_first_time(self):
        world = world_after(*GAVE)
        self.assertEqual(say(world, HEAR, 0), [0, 1])
        self.assertEqual(paper(world, 1), [(102, 1, 10, HELD, 0)])
        self.assertEqual(messages(world)[1], (GOT_MESSAGE, 1, 0, 102, 1, 10))
        self.assertEqual(marks(world, 0), {101: OVER, 102: GIVEN})
        self.assertEqual(world.parties[1].made, 0)

    def test_again_whatever_became_of_it(self):
        for mark in ALL_MARKS:
            world = world_after(*GAVE, (HEAR, 0))
            set_mark(world, 1, 102, mark)
            self.assertEqual(say(world, HEAR, 0), [0, 2])
            self.assertEqual(paper(world, 1), [(102, 1, 10, mark, 0)])
            kind = REFUSED_MESSAGE if mark == REFUSED else GOT_MESSAGE
            self.assertEqual(messages(world)[2], (kind, 1, 0, 102, 1, 10))

    def test_doubled_gift_is_eaten_once(self):
        calls = GAVE + ((AGAIN, 0, 102), (COME, 1, 2), (HEAR, 0), (USE, 1, 102), (HEAR, 1), (HEAR, 0), (USE, 1, 102))
        self.assertEqual(told(*calls)[-5:], [[0, 2], [0, 10], [0, 3], [0, 4], [-4]])

    def test_late_behind_an_ask(self):
        world = world_after(*GAVE, (ASK, 0, 102), (HEAR, 1))
        self.assertEqual(say(world, HEAR, 0), [0, 3])
        self.assertEqual(paper(world, 1), [(102, 1, 10, REFUSED, 0)])
        self.assertEqual(messages(world)[3], (REFUSED_MESSAGE, 1, 0, 102, 1, 10))


class HearAsk(unittest.TestCase):
    def test_ahead_of_the_gift(self):
        world = world_after(*GAVE, (ASK, 0, 102))
        self.assertEqual(say(world, HEAR, 1), [0, 2])
        self.assertEqual(paper(world, 1), [(102, 1, 10, REFUSED, 0)])
        self.assertEqual(messages(world)[2], (REFUSED_MESSAGE, 1, 0, 102, 1, 10))
        self.assertEqual(say(world, HEAR, 1), [0, 3])
        self.assertEqual(messages(world)[3], (REFUSED_MESSAGE, 1, 0, 102, 1, 10))
        self.assertEqual(world.parties[1].made, 0)

    def test_behind_the_gift(self):
        for mark in ALL_MARKS:
            world = world_after(*GAVE, (ASK, 0, 102), (HEAR, 0))
            set_mark(world, 1, 102, mark)
            self.assertEqual(say(world, HEAR, 1), [0, 3])
            self.assertEqual(paper(world, 1), [(102, 1, 10, mark, 0)])
            kind = REFUSED_MESSAGE if mark == REFUSED else GOT_MESSAGE
            self.assertEqual(messages(world)[3], (kind, 1, 0, 102, 1, 10))


class HearAnswers(unittest.TestCase):
    def test_got_settles(self):
        world = world_after(*GAVE, (HEAR, 0))
        sent = messages(world)
        self.assertEqual(say(world, HEAR, 1), [0, -1])
        self.assertEqual(paper(world, 0), [(101, 1, 10, OVER, 0), (102, 1, 10, SETTLED, 1)])
        self.assertEqual(messages(world), sent)
        self.assertEqual(last_told(*GAVE, (HEAR, 0), (HEAR, 1), (HEAR, 1)), [0, -1])
        self.assertEqual(last_told(*GAVE, (HEAR, 0), (HEAR, 1), (AGAIN, 0, 102)), [-4])

    def test_refused_gives_back(self):
        world = world_after(*GAVE, (ASK, 0, 102), (HEAR, 1))
        sent = messages(world)
        self.assertEqual(say(world, HEAR, 2), [0, -1])
        self.assertEqual(paper(world, 0), [(101, 1, 10, OVER, 0), (102, 1, 10, HELD, 1)])
        self.assertEqual(messages(world), sent)
        self.assertEqual(say(world, USE, 0, 102), [0, 10])

    def test_of_an_entry_that_is_not_given(self):
        for kind in (GOT_MESSAGE, REFUSED_MESSAGE):
            for mark in ALL_MARKS:
                if mark != GIVEN:
                    world = world_after(*GAVE)
                    world.messages.append(Message(kind, 1, 0, 102, 1, 10))
                    set_mark(world, 0, 102, mark)
                    before = seen(world)
                    self.assertEqual(say(world, HEAR, 1), [0, -1])
                    self.assertEqual(seen(world), before)

    def test_of_no_entry_or_from_another_than_it_was_given_to(self):
        for kind in (GOT_MESSAGE, REFUSED_MESSAGE):
            for sender, number in ((2, 102), (1, 103)):
                world = world_after(*GAVE)
                world.messages.append(Message(kind, sender, 0, number, 1, 10))
                before = seen(world)
                self.assertEqual(say(world, HEAR, 1), [0, -1])
                self.assertEqual(seen(world), before)

    def test_late_answers_of_a_promise_that_went_on(self):
        refused = GAVE + ((ASK, 0, 102), (HEAR, 1), (HEAR, 2))
        for call, mark in (((SPLIT, 0, 102, 1), OVER), ((GIVE, 0, 102, 2), OVER), ((USE, 0, 102), USED)):
            world = world_after(*refused, call)
            before = paper(world, 0)
            self.assertEqual(say(world, HEAR, 2), [0, -1])
            self.assertEqual(paper(world, 0), before)
            self.assertEqual(marks(world, 0)[102], mark)

    def test_joined_behind_a_refusal(self):
        world = world_after(*GAVE, (ASK, 0, 102), (HEAR, 1), (HEAR, 2), (LAY, 0, 1), (JOIN, 0, 103, 102), (HEAR, 2))
        self.assertEqual(marks(world, 0), {101: OVER, 102: OVER, 103: OVER, 104: HELD})


class Hear(unittest.TestCase):
    def test_no_such_message(self):
        check_refused(self, world_after((BEGIN, 2, 1)), (HEAR, 0), -4)
        world = world_after(*GAVE)
        check_refused(self, world, (HEAR, 1), -4)
        check_refused(self, world, (HEAR, 399), -4)

    def test_four_hundred_messages(self):
        for kind in (GIFT_MESSAGE, GOT_MESSAGE, ASK_MESSAGE, REFUSED_MESSAGE):
            world = world_after(*GAVE)
            fill_air(world, 398)
            self.assertEqual(say(world, HEAR, 397), [0, 398])
            world.messages.append(Message(kind, 1, 0, 102, 1, 10))
            check_refused(self, world, (HEAR, 399), -7)
            check_refused(self, world, (HEAR, 0), -7)

    def test_the_last_message_that_may_be_heard(self):
        world = world_after(*GAVE)
        fill_air(world, 399)
        check_refused(self, world, (HEAR, 399), -4)
        world.armed = -1
        self.assertEqual(say(world, HEAR, 398), [0, 399])
        check_refused(self, world, (HEAR, 399), -7)

    def test_four_hundred_through_the_interface(self):
        calls = GAVE + ((AGAIN, 0, 102),) * 398 + ((HEAR, 0), (HEAR, 399), (AGAIN, 0, 102), (AGAIN, 0, 101))
        self.assertEqual(told(*calls)[-5:], [[0, 398], [0, 399], [-7], [-7], [-4]])


if __name__ == "__main__":
    unittest.main()
