"""The numbers that the document gives to marks, kinds of messages and calls, and its limits."""

# Marks of an entry.
HELD = 0
BEING_LAID = 1
GIVEN = 2
SETTLED = 3
BEING_USED = 4
USED = 5
OVER = 6
REFUSED = 7

# Kinds of a message.
KIND_GIFT = 0
KIND_GOT = 1
KIND_ASK = 2
KIND_REFUSED = 3

# The calls.
BEGIN = 0
COME = 1
LAY = 2
SPLIT = 3
JOIN = 4
GIVE = 5
AGAIN = 6
ASK = 7
HEAR = 8
USE = 9
LOOK = 10
ARM = 11
DISARM = 12
PAPER = 13
TIN = 14
COUNTS = 15
MESSAGE = 16
AUDIT = 17
ENTRY = 18
CLEAR = 19
AIR = 20

# Depots are numbered from 0, so a party that is away is at none of them.
AWAY = -1
NOT_ARMED = -1
NO_ANSWER = -1

# What a call answers, alone, that was cut off.
CUT_OFF = 1

MOST_MADE = 60
MOST_MESSAGES = 400
MOST_LAID = 1000000
