"""The calls of a party on its own: coming, laying, splitting, joining, using, looking."""

from radiofood.names import AWAY, CUT_OFF, MOST_LAID, MOST_MADE
from radiofood.names import BEING_LAID, BEING_USED, HELD, OVER, USED


def call_come(world, party, d):
    if d > len(world.tins):
        return [-4]
    if d == 0:
        party.place = AWAY
    else:
        party.place = d - 1
    return [0]


def call_lay(world, party, n):
    if party.place == AWAY:
        return [-4]
    if party.made >= MOST_MADE:
        return [-5]
    if world.rations_laid + n > MOST_LAID:
        return [-6]
    # The paper is written first: food in a tin that no paper tells of would be lost.
    if world.cuts_off():
        return [CUT_OFF]
    entry = party.put_new_entry(party.place, n, BEING_LAID, party.who)
    if world.cuts_off():
        return [CUT_OFF]
    put_into_tin(world, entry)
    if world.cuts_off():
        return [CUT_OFF]
    entry.mark = HELD
    return [0, entry.number]


def put_into_tin(world, entry):
    tin = world.tins[entry.depot]
    tin.food += entry.rations
    tin.laid.append(entry.number)
    world.rations_laid += entry.rations


def call_split(world, party, i, n):
    entry = party.entry_marked(i, HELD)
    if entry is None:
        return [-4]
    if n >= entry.rations:
        return [-5]
    if party.made + 2 > MOST_MADE:
        return [-6]
    if world.cuts_off():
        return [CUT_OFF]
    entry.mark = OVER
    first = party.put_new_entry(entry.depot, n, HELD, party.who)
    second = party.put_new_entry(entry.depot, entry.rations - n, HELD, party.who)
    return [0, first.number, second.number]


def call_join(world, party, i, j):
    one = party.entry_marked(i, HELD)
    another = party.entry_marked(j, HELD)
    if one is None or another is None:
        return [-4]
    if i == j or one.depot != another.depot:
        return [-5]
    if party.made >= MOST_MADE:
        return [-6]
    if world.cuts_off():
        return [CUT_OFF]
    one.mark = OVER
    another.mark = OVER
    entry = party.put_new_entry(one.depot, one.rations + another.rations, HELD, party.who)
    return [0, entry.number]


def call_use(world, party, i):
    entry = party.entry_marked(i, HELD)
    if entry is None:
        return [-4]
    if party.place != entry.depot:
        return [-5]
    # The mark goes first: whoever is cut off here asks the tin whether the food was taken.
    if world.cuts_off():
        return [CUT_OFF]
    entry.mark = BEING_USED
    if world.cuts_off():
        return [CUT_OFF]
    eat_from_tin(world, party, entry)
    if world.cuts_off():
        return [CUT_OFF]
    entry.mark = USED
    return [0, entry.rations]


def eat_from_tin(world, party, entry):
    tin = world.tins[entry.depot]
    tin.food -= entry.rations
    tin.used.append(entry.number)
    party.eaten += entry.rations


def call_look(world, party):
    if party.place == AWAY:
        return [-4]
    tin = world.tins[party.place]
    told = []
    for entry in unfinished_here(party):
        if world.cuts_off():
            return [CUT_OFF]
        entry.mark = mark_by_tin(tin, entry)
        told.append(entry.number)
        told.append(entry.mark)
    return [0, len(told)] + told


def unfinished_here(party):
    here = [entry for entry in party.entries if entry.depot == party.place]
    return [entry for entry in here if entry.mark == BEING_LAID or entry.mark == BEING_USED]


def mark_by_tin(tin, entry):
    if entry.mark == BEING_LAID:
        return HELD if entry.number in tin.laid else OVER
    return USED if entry.number in tin.used else HELD
