"""The whole store: books, senders, groups, and how they are looked up."""

from recordbooks.refusals import NoSuchBook, NoSuchGroup, NoSuchSender, NoTransaction, Outdated


class Store:
    # Senders and groups stand by their number, in the order in which they came.
    def __init__(self):
        self.start_anew()

    def start_anew(self):
        self.books = []
        self.senders = {}
        self.groups = {}

    def book_at(self, place):
        if not 0 <= place < len(self.books):
            raise NoSuchBook()
        return self.books[place]

    def sender_numbered(self, number):
        if number not in self.senders:
            raise NoSuchSender()
        return self.senders[number]

    def sender_at(self, number, epoch):
        sender = self.sender_numbered(number)
        if sender.epoch != epoch:
            raise Outdated()
        return sender

    def sender_within(self, number, epoch):
        sender = self.sender_at(number, epoch)
        if sender.transaction is None:
            raise NoTransaction()
        return sender

    def group_at(self, number):
        if number not in self.groups:
            raise NoSuchGroup()
        return self.groups[number]

    # The group, if this member has that part in this generation.
    def group_for(self, number, member, generation, part_place):
        group = self.group_at(number)
        group.check_generation(generation)
        group.check_owner(part_place, member)
        return group

    # An address is (book, part).
    def part_at(self, address):
        book = self.book_at(address[0])
        if not 0 <= address[1] < len(book.parts):
            raise NoSuchBook()
        return book.parts[address[1]]

    def all_parts(self):
        parts = []
        for book in self.books:
            parts.extend(book.parts)
        return parts
