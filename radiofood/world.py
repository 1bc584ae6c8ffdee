"""What there is on the ice: parties with their papers, depots' tins, messages, and the cutting off."""

from radiofood.names import AWAY, NOT_ARMED


class Entry:
    def __init__(self, number, depot, rations, mark, other):
        self.number = number
        self.depot = depot
        self.rations = rations
        self.mark = mark
        self.other = other


# A party and its paper: how many promises it has made, and the entries in the order of their writing.
class Party:
    def __init__(self, who):
        self.who = who
        self.place = AWAY
        self.made = 0
        self.entries = []
        self.eaten = 0

    def entry_of(self, number):
        for entry in self.entries:
            if entry.number == number:
                return entry
        return None

    def entry_marked(self, number, mark):
        entry = self.entry_of(number)
        if entry is not None and entry.mark == mark:
            return entry
        return None

    def put_entry(self, number, depot, rations, mark, other):
        entry = Entry(number, depot, rations, mark, other)
        self.entries.append(entry)
        return entry

    # Counting belongs to the same small step as the writing: a number once written is never made again.
    def put_new_entry(self, depot, rations, mark, other):
        self.made += 1
        return self.put_entry(100 * (self.who + 1) + self.made, depot, rations, mark, other)


class Tin:
    def __init__(self):
        self.food = 0
        self.laid = []
        self.used = []


class Message:
    def __init__(self, kind, sender, receiver, number, depot, rations):
        self.kind = kind
        self.sender = sender
        self.receiver = receiver
        self.number = number
        self.depot = depot
        self.rations = rations


# A world without parties is one in which nothing has begun.
class World:
    def __init__(self):
        self.parties = []
        self.tins = []
        self.messages = []
        self.armed = NOT_ARMED
        self.rations_laid = 0

    def begin(self, parties, depots):
        self.parties = [Party(who) for who in range(parties)]
        self.tins = [Tin() for depot in range(depots)]
        self.messages = []
        self.armed = NOT_ARMED
        self.rations_laid = 0

    # To be asked once ahead of each small step, for asking counts the step.
    def cuts_off(self):
        if self.armed == NOT_ARMED:
            return False
        if self.armed == 0:
            self.armed = NOT_ARMED
            return True
        self.armed -= 1
        return False

    def put_message(self, message):
        self.messages.append(message)
        return len(self.messages) - 1
