"""The calls of senders: 7 sender to 12 giveup."""

from recordbooks.ranges import check_key, check_range, check_time, check_value
from recordbooks.records import BY_ITSELF, WITHIN, Record
from recordbooks.refusals import NumberTooFar, TransactionOpen
from recordbooks.senders import Move, Sender, Transaction
from recordbooks.transactions import do_transaction, end_transaction

MOST_SENDERS = 8
MOST_NUMBER = 1000000
MOST_MARKS = 100


def answer_sender(store, reader):
    number = reader.take_number()
    check_range(number, 1, MOST_SENDERS)
    if number not in store.senders:
        store.senders[number] = Sender(number)
    sender = store.senders[number]
    if sender.transaction is not None:
        end_transaction(store, sender)
    sender.epoch += 1
    return [sender.epoch]


# address is (book, part); the transaction, if one is open, has that part from now on.
def kind_to_send(sender, address):
    if sender.transaction is None:
        return BY_ITSELF
    sender.transaction.note_part(address)
    return WITHIN


def answer_send(store, reader):
    sender_number = reader.take_number()
    epoch = reader.take_number()
    number = reader.take_number()
    book_place = reader.take_number()
    key = reader.take_number()
    time = reader.take_number()
    value = reader.take_row()
    sender = store.sender_at(sender_number, epoch)
    book = store.book_at(book_place)
    check_range(number, 1, MOST_NUMBER)
    check_key(key)
    check_time(time)
    check_value(value)
    part_place = book.part_for(key)
    part = book.parts[part_place]
    places = part.places_told_by(sender_number)
    if number > len(places) + 1:
        raise NumberTooFar()
    if number <= len(places):
        return [part_place, places[number - 1], 1]
    kind = kind_to_send(sender, (book_place, part_place))
    place = part.put_in(Record(time, key, value, sender_number, number, kind))
    return [part_place, place, 0]


def answer_begin(store, reader):
    number = reader.take_number()
    epoch = reader.take_number()
    sender = store.sender_at(number, epoch)
    if sender.transaction is not None:
        raise TransactionOpen()
    sender.transaction = Transaction()
    return [0]


def answer_place(store, reader):
    number = reader.take_number()
    epoch = reader.take_number()
    group_number = reader.take_number()
    member = reader.take_number()
    generation = reader.take_number()
    part_place = reader.take_number()
    place = reader.take_number()
    transaction = store.sender_within(number, epoch).transaction
    group = store.group_at(group_number)
    group.check_generation(generation)
    group.check_owner(part_place, member)
    part = store.part_at((group.book, part_place))
    group.check_place(part_place, place, part.on_disk)
    transaction.moves.append(Move(group_number, generation, part_place, place))
    return [len(transaction.moves)]


def answer_done(store, reader):
    number = reader.take_number()
    epoch = reader.take_number()
    marks_before_loss = reader.take_number()
    sender = store.sender_within(number, epoch)
    check_range(marks_before_loss, 0, MOST_MARKS)
    transaction = sender.transaction
    for move in transaction.moves:
        group = store.group_at(move.group)
        group.check_generation(move.generation)
    do_transaction(store, sender, marks_before_loss)
    return [len(transaction.parts), len(transaction.moves)]


def answer_giveup(store, reader):
    number = reader.take_number()
    epoch = reader.take_number()
    sender = store.sender_within(number, epoch)
    count = len(sender.transaction.parts)
    end_transaction(store, sender)
    return [count]


SENDER_CALLS = {
    7: answer_sender,
    8: answer_send,
    9: answer_begin,
    10: answer_place,
    11: answer_done,
    12: answer_giveup,
}
