"""What the tests share: telling calls, and seeing all of an object."""

from radiofood.ice import answer_call, answers
from radiofood.world import World

BEGIN, COME, LAY, SPLIT, JOIN, GIVE, AGAIN, ASK, HEAR, USE, LOOK = range(11)
ARM, DISARM, PAPER, TIN, COUNTS, MESSAGE, AUDIT, ENTRY, CLEAR, AIR = range(11, 21)
HELD, BEING_LAID, GIVEN, SETTLED, BEING_USED, USED, OVER, REFUSED = range(8)
GIFT_MESSAGE, GOT_MESSAGE, ASK_MESSAGE, REFUSED_MESSAGE = range(4)


def flat(calls):
    return [number for call in calls for number in call]


def told(*calls):
    """The answer to each call, each a list, through the interface."""
    numbers = answers(flat(calls))
    rows = []
    at = 0
    while at < len(numbers):
        behind = at + 1 + numbers[at]
        rows.append(numbers[at + 1:behind])
        at = behind
    return rows


def last_told(*calls):
    return told(*calls)[-1]


def shown(*calls, parties=2, depots=1):
    """What paper, tin, message and air tell behind these calls."""
    air = last_told(*calls, (AIR,))
    looks = [(PAPER, p) for p in range(parties)] + [(TIN, d) for d in range(depots)]
    rows = told(*calls, *looks, *[(MESSAGE, m) for m in range(air[0])])[len(calls):]
    keys = [f"paper {p}" for p in range(parties)] + [f"tin {d}" for d in range(depots)]
    view = dict(zip(keys, rows))
    view["messages"] = rows[len(keys):]
    view["armed"] = air[1]
    view["laid"] = air[2]
    view["eaten"] = air[3:]
    return view


def say(world, *call):
    return answer_call(world, call[0], list(call[1:]))


def world_after(*calls):
    """An object behind these calls, none of which may be refused or cut off."""
    world = World()
    for call in calls:
        answer = say(world, *call)
        if answer[0] != 0:
            raise AssertionError(f"{call} answered {answer}")
    return world


def entry_row(entry):
    return (entry.number, entry.depot, entry.rations, entry.mark, entry.other)


def paper(world, p):
    return [entry_row(entry) for entry in world.parties[p].entries]


def marks(world, p):
    return {entry.number: entry.mark for entry in world.parties[p].entries}


def tin(world, d):
    return (world.tins[d].food, list(world.tins[d].laid), list(world.tins[d].used))


def messages(world):
    return [(m.kind, m.sender, m.receiver, m.number, m.depot, m.rations) for m in world.messages]


def seen(world):
    """All that an object keeps."""
    parties = [(p.who, p.place, p.made, p.eaten) for p in world.parties]
    papers = [paper(world, p) for p in range(len(parties))]
    tins = [tin(world, d) for d in range(len(world.tins))]
    return (parties, papers, tins, messages(world), world.armed, world.rations_laid)


def check_refused(case, world, call, refusal):
    """The refusal comes as its number alone, and changes nothing, nor counts a small step."""
    world.armed = 5
    before = seen(world)
    case.assertEqual(say(world, *call), [refusal])
    case.assertEqual(seen(world), before)
