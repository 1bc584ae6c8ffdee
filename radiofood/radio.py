"""The calls that send or hear messages: giving, giving again, asking, hearing, clearing."""

from radiofood.names import CUT_OFF, MOST_MADE, MOST_MESSAGES, NO_ANSWER, NOT_ARMED
from radiofood.names import GIVEN, HELD, OVER, REFUSED, SETTLED
from radiofood.names import KIND_ASK, KIND_GIFT, KIND_GOT, KIND_REFUSED
from radiofood.world import Message


def air_is_full(world):
    return len(world.messages) >= MOST_MESSAGES


def call_give(world, party, i, q):
    entry = party.entry_marked(i, HELD)
    if entry is None:
        return [-4]
    if q >= len(world.parties) or q == party.who:
        return [-5]
    if party.made >= MOST_MADE:
        return [-6]
    if air_is_full(world):
        return [-7]
    # A new number for each gift: an old answer can't be taken for one about this gift.
    if world.cuts_off():
        return [CUT_OFF]
    entry.mark = OVER
    given = party.put_new_entry(entry.depot, entry.rations, GIVEN, q)
    if world.cuts_off():
        return [CUT_OFF]
    return [0, given.number, send_about(world, party, given, KIND_GIFT)]


def send_about(world, party, given, kind):
    return world.put_message(Message(kind, party.who, given.other, given.number, given.depot, given.rations))


def call_again(world, party, i):
    return send_once_more(world, party, i, KIND_GIFT)


def call_ask(world, party, i):
    return send_once_more(world, party, i, KIND_ASK)


def send_once_more(world, party, i, kind):
    given = party.entry_marked(i, GIVEN)
    if given is None:
        return [-4]
    if air_is_full(world):
        return [-7]
    if world.cuts_off():
        return [CUT_OFF]
    return [0, send_about(world, party, given, kind)]


def call_hear(world, m):
    if m >= len(world.messages):
        return [-4]
    if air_is_full(world):
        return [-7]
    return hear_message(world, world.messages[m])


def hear_message(world, message):
    if message.kind == KIND_GIFT:
        return hear_and_answer(world, message, HELD)
    if message.kind == KIND_ASK:
        return hear_and_answer(world, message, REFUSED)
    if message.kind == KIND_GOT:
        return hear_answer(world, message, SETTLED)
    return hear_answer(world, message, HELD)


# Gift and ask differ only in the mark that is written where the paper has no entry yet.
def hear_and_answer(world, message, mark):
    party = world.parties[message.receiver]
    entry = party.entry_of(message.number)
    if entry is None:
        if world.cuts_off():
            return [CUT_OFF]
        entry = party.put_entry(message.number, message.depot, message.rations, mark, message.sender)
    if world.cuts_off():
        return [CUT_OFF]
    kind = KIND_REFUSED if entry.mark == REFUSED else KIND_GOT
    return [0, world.put_message(answer_to(message, kind))]


def answer_to(message, kind):
    return Message(kind, message.receiver, message.sender, message.number, message.depot, message.rations)


def hear_answer(world, message, mark):
    given = world.parties[message.receiver].entry_marked(message.number, GIVEN)
    if given is not None and given.other == message.sender:
        if world.cuts_off():
            return [CUT_OFF]
        given.mark = mark
    return [0, NO_ANSWER]


def call_clear(world):
    if world.armed != NOT_ARMED:
        return [-4]
    gifts = unsettled_gifts(world)
    if 2 * len(gifts) + len(world.messages) > MOST_MESSAGES:
        return [-7]
    for party, given in gifts:
        settle_gift(world, party, given)
    return [0, len(gifts), len(unsettled_gifts(world))]


def unsettled_gifts(world):
    gifts = []
    for party in world.parties:
        for entry in party.entries:
            if entry.mark == GIVEN:
                gifts.append((party, entry))
    return gifts


# Not by call_hear: the answer to the last gift may be the 400th message, and is heard all the same.
def settle_gift(world, party, given):
    gift = send_about(world, party, given, KIND_GIFT)
    heard = hear_message(world, world.messages[gift])
    hear_message(world, world.messages[heard[1]])
