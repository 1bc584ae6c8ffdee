"""Reads the calls on one object, one behind another, and answers them."""

from radiofood.food import call_come, call_join, call_lay, call_look, call_split, call_use
from radiofood.names import AGAIN, ARM, ASK, AUDIT, BEGIN, CLEAR, COME, COUNTS, DISARM, ENTRY, GIVE, HEAR, JOIN, LAY
from radiofood.names import LOOK, MESSAGE, NOT_ARMED, PAPER, SPLIT, TIN, USE
from radiofood.radio import call_again, call_ask, call_clear, call_give, call_hear
from radiofood.telling import call_air, call_audit, call_counts, call_entry, call_message, call_paper, call_tin
from radiofood.world import World

# By a call's number: the lowest and the highest value of each of its arguments.
RANGES = (
    ((1, 6), (1, 6)),  # begin: parties, depots
    ((0, 5), (0, 6)),  # come: p, d
    ((0, 5), (1, 1000)),  # lay: p, n
    ((0, 5), (100, 799), (1, 1000)),  # split: p, i, n
    ((0, 5), (100, 799), (100, 799)),  # join: p, i, j
    ((0, 5), (100, 799), (0, 5)),  # give: p, i, q
    ((0, 5), (100, 799)),  # again: p, i
    ((0, 5), (100, 799)),  # ask: p, i
    ((0, 399),),  # hear: m
    ((0, 5), (100, 799)),  # use: p, i
    ((0, 5),),  # look: p
    ((0, 1000),),  # arm: j
    (),  # disarm
    ((0, 5),),  # paper: p
    ((0, 5),),  # tin: d
    ((0, 5), (0, 5)),  # counts: p, d
    ((0, 399),),  # message: m
    ((0, 5),),  # audit: d
    ((0, 5), (100, 799)),  # entry: p, i
    (),  # clear
    (),  # air
)


def answers(calls):
    world = World()
    told = []
    at = 0
    while at < len(calls):
        call = calls[at]
        behind = at + 1 + len(RANGES[call])
        answer = answer_call(world, call, calls[at + 1:behind])
        told.append(len(answer))
        told.extend(answer)
        at = behind
    return told


def answer_call(world, call, numbers):
    if not are_in_range(numbers, RANGES[call]):
        return [-1]
    if call == BEGIN:
        world.begin(numbers[0], numbers[1])
        return [0]
    if len(world.parties) == 0:
        return [-2]
    if not names_a_party(call):
        return answer_all(world, call, numbers)
    if numbers[0] >= len(world.parties):
        return [-3]
    return answer_party(world, world.parties[numbers[0]], call, numbers)


def are_in_range(numbers, ranges):
    for number, bounds in zip(numbers, ranges):
        if number < bounds[0] or number > bounds[1]:
            return False
    return True


def names_a_party(call):
    return call in (COME, LAY, SPLIT, JOIN, GIVE, AGAIN, ASK, USE, LOOK, PAPER, COUNTS, ENTRY)


def answer_party(world, party, call, numbers):
    if call == COME:
        return call_come(world, party, numbers[1])
    if call == LAY:
        return call_lay(world, party, numbers[1])
    if call == SPLIT:
        return call_split(world, party, numbers[1], numbers[2])
    if call == JOIN:
        return call_join(world, party, numbers[1], numbers[2])
    if call == GIVE:
        return call_give(world, party, numbers[1], numbers[2])
    if call == AGAIN:
        return call_again(world, party, numbers[1])
    if call == ASK:
        return call_ask(world, party, numbers[1])
    if call == USE:
        return call_use(world, party, numbers[1])
    if call == LOOK:
        return call_look(world, party)
    if call == PAPER:
        return call_paper(party)
    if call == COUNTS:
        return call_counts(world, party, numbers[1])
    return call_entry(party, numbers[1])


def answer_all(world, call, numbers):
    if call == HEAR:
        return call_hear(world, numbers[0])
    if call == ARM:
        return call_arm(world, numbers[0])
    if call == DISARM:
        return call_arm(world, NOT_ARMED)
    if call == TIN:
        return call_tin(world, numbers[0])
    if call == MESSAGE:
        return call_message(world, numbers[0])
    if call == AUDIT:
        return call_audit(world, numbers[0])
    if call == CLEAR:
        return call_clear(world)
    return call_air(world)


def call_arm(world, j):
    world.armed = j
    return [0]
