"""Senders and the transactions that they open."""

from recordbooks.refusals import TransactionOpen


class Move:
    # A group's kept place that a transaction is to move.
    def __init__(self, group, generation, part, place):
        self.group = group
        self.generation = generation
        self.part = part
        self.place = place


class Transaction:
    # parts are (book, part); the first ones, as many as marked says, have their mark.
    def __init__(self):
        self.parts = []
        self.moves = []
        self.is_decided = False
        self.marked = 0

    def note_part(self, address):
        if address not in self.parts:
            self.parts.append(address)


class Sender:
    def __init__(self, number):
        self.number = number
        self.epoch = 0
        self.transaction = None

    def begin_transaction(self):
        if self.transaction is not None:
            raise TransactionOpen()
        self.transaction = Transaction()
