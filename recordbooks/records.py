"""A record and its kinds."""

NO_KEY = -1

BY_ITSELF = 0
WITHIN = 1
MARK_DONE = 2
MARK_GIVEN_UP = 3


class Record:
    # A value of None takes the key away; the place comes with the part.
    def __init__(self, time, key, value, sender, number, kind):
        self.place = None
        self.time = time
        self.key = key
        self.value = value
        self.sender = sender
        self.number = number
        self.kind = kind


def mark_of(sender, kind):
    return Record(0, NO_KEY, None, sender, 0, kind)
