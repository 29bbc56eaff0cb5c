"""Writes calls as the interface tells them, and parts answers call by call."""

from recordbooks.desk import answers, answers_of_store
from recordbooks.store import Store


def signs(text):
    return [ord(sign) for sign in text]


def clear():
    return [0]


def books_bytes(text):
    return [1, len(text)] + list(text)


# Lines are parted by /, as in the document's examples.
def books(text):
    return books_bytes(signs(text.replace("/", "\n")))


def show():
    return [2]


def put(book, key, time=0, value=()):
    return [3, book, key, time, len(value)] + list(value)


def remove(book, key, time=0):
    return [4, book, key, time]


def flush(book):
    return [5, book]


def cut():
    return [6]


def sender(number):
    return [7, number]


def send(number, epoch, told, book, key, time=0, value=()):
    return [8, number, epoch, told, book, key, time, len(value)] + list(value)


def begin(number, epoch):
    return [9, number, epoch]


def place(number, epoch, group_number, member, generation, part, told):
    return [10, number, epoch, group_number, member, generation, part, told]


def done(number, epoch, marks=100):
    return [11, number, epoch, marks]


def giveup(number, epoch):
    return [12, number, epoch]


def group(number, book):
    return [13, number, book]


def join(number, member):
    return [14, number, member]


def leave(number, member):
    return [15, number, member]


def fetch(number, member, generation, part, how_many=20, careful=1):
    return [16, number, member, generation, part, how_many, careful]


def keep(number, member, generation, part, told):
    return [17, number, member, generation, part, told]


def groupat(number):
    return [18, number]


def work(group_number, member, generation, part, number, epoch, book, how_many=20, marks=100):
    return [19, group_number, member, generation, part, number, epoch, book, how_many, marks]


def tighten(book):
    return [20, book]


def find(book, part, told):
    return [21, book, part, told]


def findtime(book, part, time):
    return [22, book, part, time]


def read(book, part, told=0, how_many=20, careful=1):
    return [23, book, part, told, how_many, careful]


def map_of(book):
    return [24, book]


def part_at(book, part):
    return [25, book, part]


def senderat(number):
    return [26, number]


def counts():
    return [27]


def joined(calls):
    numbers = []
    for call in calls:
        numbers.extend(call)
    return numbers


def parted(numbers):
    told = []
    position = 0
    while position < len(numbers):
        length = numbers[position]
        told.append(numbers[position + 1:position + 1 + length])
        position += 1 + length
    return told


def run(*calls):
    return parted(answers(joined(calls)))


# An answer that has so many numbers before its rows, as those numbers and the rows.
def with_rows_parted(answer, before):
    return answer[:before], parted(answer[before:])


# The places of the records in an answer of read or fetch, behind where one goes on.
def places_got(answer):
    return [answer[0]] + [row[0] for row in parted(answer[1:])]


# The answer to the last call alone.
def last(*calls):
    return run(*calls)[-1]


# Answers of one store that lives on, so that a test can look into it.
class Bench:
    def __init__(self, *calls):
        self.store = Store()
        self.run(*calls)

    def run(self, *calls):
        return parted(answers_of_store(self.store, joined(calls)))

    def part(self, book, part):
        return self.store.books[book].parts[part]

    # (place, kind, sender, number) of each record that's there.
    def records(self, book, part):
        found = self.part(book, part).records_there()
        return [(record.place, record.kind, record.sender, record.number) for record in found]

    # All that the store holds, as plain values, to be compared.
    def state(self):
        return plain(self.store)


def plain(thing):
    if isinstance(thing, (list, tuple)):
        return [plain(one) for one in thing]
    if isinstance(thing, dict):
        return [(key, plain(one)) for key, one in thing.items()]
    if hasattr(thing, "__dict__"):
        return [(key, plain(one)) for key, one in vars(thing).items()]
    return thing
