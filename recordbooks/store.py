"""The whole store: books, senders, groups, and how they are looked up."""

from recordbooks.refusals import NoSuchBook, NoSuchGroup, NoSuchSender, NoTransaction, Outdated


class Store:
    # Senders and groups stand by their number, in the order in which they came.
    def __init__(self):
        self.start_anew()

    def start_anew(self):
        self.books = []
        self.senders = {}
        self.groups = {}

    def book_at(self, place):
        if not 0 <= place < len(self.books):
            raise NoSuchBook()
        return self.books[place]

    def sender_at(self, number, epoch):
        if number not in self.senders:
            raise NoSuchSender()
        sender = self.senders[number]
        if sender.epoch != epoch:
            raise Outdated()
        return sender

    def sender_within(self, number, epoch):
        sender = self.sender_at(number, epoch)
        if sender.transaction is None:
            raise NoTransaction()
        return sender

    def group_at(self, number):
        if number not in self.groups:
            raise NoSuchGroup()
        return self.groups[number]

    def part_at(self, address):
        book = self.books[address[0]]
        return book.parts[address[1]]

    def all_parts(self):
        parts = []
        for book in self.books:
            parts.extend(book.parts)
        return parts
