"""The calls that only tell what is there: paper, tin, counts, message, audit, entry, air."""

from radiofood.names import BEING_LAID, BEING_USED, GIVEN, HELD, REFUSED


def call_paper(party):
    told = [party.made, len(party.entries)]
    for entry in party.entries:
        told.extend(entry_told(entry))
    return told


def entry_told(entry):
    return [entry.number, entry.depot, entry.rations, entry.mark, entry.other]


def call_tin(world, d):
    if d >= len(world.tins):
        return [-3]
    tin = world.tins[d]
    return [tin.food, len(tin.laid)] + tin.laid + [len(tin.used)] + tin.used


def call_counts(world, party, d):
    if d >= len(world.tins):
        return [-4]
    return [sum([entry.rations for entry in party.entries if entry.depot == d and entry.mark == HELD])]


def call_message(world, m):
    if m >= len(world.messages):
        return [-4]
    message = world.messages[m]
    return [message.kind, message.sender, message.receiver, message.number, message.depot, message.rations]


# Entries may be added up for promises: none is alive on two papers, or under way from two.
def call_audit(world, d):
    if d >= len(world.tins):
        return [-3]
    tin = world.tins[d]
    alive = 0
    under_way = 0
    for entry in entries_of_depot(world, d):
        if is_alive(tin, entry):
            alive += entry.rations
        if is_under_way(world, entry):
            under_way += entry.rations
    return [alive, under_way, tin.food]


def entries_of_depot(world, d):
    entries = []
    for party in world.parties:
        entries.extend([entry for entry in party.entries if entry.depot == d])
    return entries


def is_alive(tin, entry):
    if entry.mark == BEING_LAID:
        return entry.number in tin.laid
    if entry.mark == BEING_USED:
        return entry.number not in tin.used
    return entry.mark == HELD


def is_under_way(world, entry):
    if entry.mark != GIVEN:
        return False
    there = world.parties[entry.other].entry_of(entry.number)
    return there is None or there.mark == REFUSED


def call_entry(party, i):
    entry = party.entry_of(i)
    if entry is None:
        return [-4]
    return entry_told(entry)


def call_air(world):
    return [len(world.messages), world.armed, world.rations_laid] + [party.eaten for party in world.parties]
