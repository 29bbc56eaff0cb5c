"""The calls of senders: 7 sender to 12 giveup, 26 senderat."""

from recordbooks.ranges import MOST_MARKS, check_key, check_range, check_time, check_value
from recordbooks.refusals import NumberTooFar
from recordbooks.rows import with_rows
from recordbooks.senders import Move, Sender
from recordbooks.transactions import do_transaction, end_transaction, send_next

MOST_SENDERS = 8
MOST_NUMBER = 1000000


def answer_sender(store, reader):
    number = reader.take_number()
    check_range(number, 1, MOST_SENDERS)
    if number not in store.senders:
        store.senders[number] = Sender(number)
    sender = store.senders[number]
    if sender.transaction is not None:
        end_transaction(store, sender)
    sender.epoch += 1
    return [sender.epoch]


def answer_send(store, reader):
    sender_number = reader.take_number()
    epoch = reader.take_number()
    number = reader.take_number()
    book_place = reader.take_number()
    key = reader.take_number()
    time = reader.take_number()
    value = reader.take_row()
    sender = store.sender_at(sender_number, epoch)
    book = store.book_at(book_place)
    check_range(number, 1, MOST_NUMBER)
    check_key(key)
    check_time(time)
    check_value(value)
    part_place = book.part_for(key)
    places = book.parts[part_place].places_told_by(sender_number)
    if number > len(places) + 1:
        raise NumberTooFar()
    if number <= len(places):
        return [part_place, places[number - 1], 1]
    place = send_next(store, sender, (book_place, part_place), key, time, value)
    return [part_place, place, 0]


def answer_begin(store, reader):
    number = reader.take_number()
    epoch = reader.take_number()
    sender = store.sender_at(number, epoch)
    sender.begin_transaction()
    return [0]


def answer_place(store, reader):
    number = reader.take_number()
    epoch = reader.take_number()
    group_number = reader.take_number()
    member = reader.take_number()
    generation = reader.take_number()
    part_place = reader.take_number()
    place = reader.take_number()
    transaction = store.sender_within(number, epoch).transaction
    group = store.group_for(group_number, member, generation, part_place)
    part = store.part_at((group.book, part_place))
    group.check_place(part_place, place, part.on_disk)
    transaction.moves.append(Move(group_number, generation, part_place, place))
    return [len(transaction.moves)]


def answer_done(store, reader):
    number = reader.take_number()
    epoch = reader.take_number()
    marks_before_loss = reader.take_number()
    sender = store.sender_within(number, epoch)
    check_range(marks_before_loss, 0, MOST_MARKS)
    transaction = sender.transaction
    for move in transaction.moves:
        group = store.group_at(move.group)
        group.check_generation(move.generation)
    do_transaction(store, sender, marks_before_loss)
    return [len(transaction.parts), len(transaction.moves)]


def answer_giveup(store, reader):
    number = reader.take_number()
    epoch = reader.take_number()
    sender = store.sender_within(number, epoch)
    count = len(sender.transaction.parts)
    end_transaction(store, sender)
    return [count]


def addresses_row(transaction):
    row = []
    for address in transaction.parts:
        row.extend(list(address))
    return row


def moves_row(transaction):
    row = []
    for move in transaction.moves:
        row.extend([move.group, move.generation, move.part, move.place])
    return row


def answer_senderat(store, reader):
    sender = store.sender_numbered(reader.take_number())
    transaction = sender.transaction
    if transaction is None:
        return [sender.epoch, 0]
    return with_rows([sender.epoch, 1], [addresses_row(transaction), moves_row(transaction)])


SENDER_CALLS = {
    7: answer_sender,
    8: answer_send,
    9: answer_begin,
    10: answer_place,
    11: answer_done,
    12: answer_giveup,
    26: answer_senderat,
}
