"""Writes calls as the interface tells them, and parts answers call by call."""

from recordbooks.desk import answers, answers_of_store
from recordbooks.store import Store


def signs(text):
    return [ord(sign) for sign in text]


def clear():
    return [0]


def books_bytes(text):
    return [1, len(text)] + list(text)


# Lines are parted by /, as in the document's examples.
def books(text):
    return books_bytes(signs(text.replace("/", "\n")))


def show():
    return [2]


def put(book, key, time=0, value=()):
    return [3, book, key, time, len(value)] + list(value)


def remove(book, key, time=0):
    return [4, book, key, time]


def flush(book):
    return [5, book]


def cut():
    return [6]


def sender(number):
    return [7, number]


def send(number, epoch, told, book, key, time=0, value=()):
    return [8, number, epoch, told, book, key, time, len(value)] + list(value)


def begin(number, epoch):
    return [9, number, epoch]


def place(number, epoch, group_number, member, generation, part, told):
    return [10, number, epoch, group_number, member, generation, part, told]


def done(number, epoch, marks=100):
    return [11, number, epoch, marks]


def giveup(number, epoch):
    return [12, number, epoch]


def group(number, book):
    return [13, number, book]


def joined(calls):
    numbers = []
    for call in calls:
        numbers.extend(call)
    return numbers


def parted(numbers):
    told = []
    position = 0
    while position < len(numbers):
        length = numbers[position]
        told.append(numbers[position + 1:position + 1 + length])
        position += 1 + length
    return told


def run(*calls):
    return parted(answers(joined(calls)))


# The answer to the last call alone.
def last(*calls):
    return run(*calls)[-1]


# Answers of one store that lives on, so that a test can look into it.
class Bench:
    def __init__(self, *calls):
        self.store = Store()
        self.run(*calls)

    def run(self, *calls):
        return parted(answers_of_store(self.store, joined(calls)))

    def part(self, book, part):
        return self.store.books[book].parts[part]

    # (place, kind, sender, number) of each record that's there.
    def records(self, book, part):
        found = self.part(book, part).records_there()
        return [(record.place, record.kind, record.sender, record.number) for record in found]

    # All that the store holds, as plain values, to be compared.
    def state(self):
        return plain(self.store)


def plain(thing):
    if isinstance(thing, (list, tuple)):
        return [plain(one) for one in thing]
    if isinstance(thing, dict):
        return [(key, plain(one)) for key, one in thing.items()]
    if hasattr(thing, "__dict__"):
        return [(key, plain(one)) for key, one in vars(thing).items()]
    return thing
