"""What the order of small steps is for: in every depot lies just the food of the promises alive or under way."""

import random
import unittest

from radiofood.world import World
from tests.helper import AGAIN, AIR, ARM, ASK, AUDIT, BEGIN, CLEAR, COME, COUNTS, DISARM, GIVE, HEAR, JOIN, LAY
from tests.helper import LOOK, SPLIT, USE
from tests.helper import BEING_LAID, BEING_USED, GIVEN, HELD, REFUSED
from tests.helper import say, seen


def is_alive(world, entry):
    tin = world.tins[entry.depot]
    laid = entry.mark == BEING_LAID and entry.number in tin.laid
    return entry.mark == HELD or laid or (entry.mark == BEING_USED and entry.number not in tin.used)


def is_under_way(world, entry):
    if entry.mark != GIVEN:
        return False
    there = world.parties[entry.other].entry_of(entry.number)
    return there is None or there.mark == REFUSED


def random_call(chance, world):
    p = chance.randrange(len(world.parties))
    entries = world.parties[p].entries
    number = chance.choice(entries).number if entries else 101
    other = chance.choice(entries).number if entries else 101
    heard = chance.randrange(len(world.messages) + 1)
    return chance.choice((
        (COME, p, chance.randrange(len(world.tins) + 1)), (LAY, p, chance.randint(1, 9)),
        (SPLIT, p, number, chance.randint(1, 4)), (JOIN, p, number, other),
        (GIVE, p, number, chance.randrange(len(world.parties))), (AGAIN, p, number), (ASK, p, number),
        (HEAR, min(heard, 399)), (HEAR, min(heard, 399)), (USE, p, number), (LOOK, p)))


class Sound(unittest.TestCase):
    def check_depots(self, world):
        entries = [entry for party in world.parties for entry in party.entries]
        alive = [entry for entry in entries if is_alive(world, entry)]
        under_way = [entry for entry in entries if is_under_way(world, entry)]
        self.assertEqual(len({entry.number for entry in alive}), len(alive))
        for depot, tin in enumerate(world.tins):
            living = sum(entry.rations for entry in alive if entry.depot == depot)
            flying = sum(entry.rations for entry in under_way if entry.depot == depot)
            self.assertEqual(living + flying, tin.food)
            self.assertEqual(say(world, AUDIT, depot), [living, flying, tin.food])
            held = [entry.rations for entry in alive if entry.depot == depot and entry.mark == HELD]
            counted = [say(world, COUNTS, party.who, depot)[0] for party in world.parties]
            self.assertEqual(sum(counted), sum(held))
        food = sum(tin.food for tin in world.tins)
        eaten = [party.eaten for party in world.parties]
        self.assertEqual(food + sum(eaten), world.rations_laid)
        self.assertEqual(say(world, AIR), [len(world.messages), world.armed, food + sum(eaten)] + eaten)

    def check_papers(self, world):
        for party in world.parties:
            numbers = [entry.number for entry in party.entries]
            self.assertEqual(len(set(numbers)), len(numbers))
            own = [number for number in numbers if number // 100 == party.who + 1]
            self.assertEqual(own, [100 * (party.who + 1) + 1 + at for at in range(party.made)])

    def check_all_is_found(self, world):
        """When all gifts are settled and all parties look, all food in the tins can be used."""
        say(world, DISARM)
        given = [entry for party in world.parties for entry in party.entries if entry.mark == GIVEN]
        if say(world, CLEAR) == [-7]:
            return
        self.assertEqual(say(world, CLEAR), [0, 0, 0])
        self.assertNotIn(GIVEN, [entry.mark for entry in given])
        for party in world.parties:
            for depot in range(len(world.tins)):
                say(world, COME, party.who, depot + 1)
                say(world, LOOK, party.who)
                for entry in party.entries:
                    if entry.mark == HELD and entry.depot == depot:
                        self.assertEqual(say(world, USE, party.who, entry.number), [0, entry.rations])
        self.assertEqual([tin.food for tin in world.tins], [0] * len(world.tins))

    def test_whatever_is_lost_and_whoever_is_cut_off(self):
        chance = random.Random(20)
        outcomes = set()
        for story in range(60):
            world = World()
            say(world, BEGIN, chance.randint(2, 4), chance.randint(1, 3))
            for turn in range(300):
                say(world, *chance.choice(((DISARM,), (DISARM,), (ARM, 0), (ARM, 1), (ARM, 2))))
                call = (CLEAR,) if turn % 50 == 49 else random_call(chance, world)
                before = seen(world)
                answer = say(world, *call)
                outcomes.add((call[0], min(answer[0], 1)))
                if answer[0] < 0:
                    self.assertEqual(seen(world), before)
                self.check_depots(world)
                self.check_papers(world)
            self.check_all_is_found(world)
        # Each call that has small steps was seen done and cut off.
        for call in (LAY, SPLIT, JOIN, GIVE, AGAIN, ASK, HEAR, USE, LOOK):
            self.assertTrue({(call, 0), (call, 1)} <= outcomes)
        self.assertTrue({(CLEAR, 0), (CLEAR, -4)} <= outcomes)


if __name__ == "__main__":
    unittest.main()
