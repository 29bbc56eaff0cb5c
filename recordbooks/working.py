"""Working: what records make is put out and the group's place moves, all in one transaction."""

from recordbooks.reading import read_part
from recordbooks.records import NO_KEY
from recordbooks.seen import seen_records
from recordbooks.senders import Move
from recordbooks.transactions import do_transaction, end_transaction, lose_power, send_next

LOSING_POWER = -1
GIVING_UP = -2


# (key, how many of it so far), for each record that has a key.
def made_of(records):
    counted = {}
    made = []
    for record in records:
        if record.key != NO_KEY:
            counted[record.key] = counted.get(record.key, 0) + 1
            made.append((record.key, counted[record.key]))
    return made


# What is made of the records below the kept place is the beginning of what is made of all.
def made_between(part, kept, goes_on):
    seen = seen_records(part)
    made_before = made_of([record for record in seen if record.place < kept])
    made = made_of([record for record in seen if record.place < goes_on])
    return made[len(made_before):]


def put_out(store, sender, address, made):
    for pair in made:
        send_next(store, sender, address, pair[0], 0, [pair[1]])


# target is (book, part); ending is j.
def work_on(store, group_number, target, sender, how_many, ending):
    sender.begin_transaction()
    group = store.group_at(group_number)
    part_place = target[1]
    part = store.part_at((group.book, part_place))
    kept = group.kept[part_place]
    goes_on = read_part(part, kept, how_many, 1).goes_on
    made = made_between(part, kept, goes_on)
    put_out(store, sender, target, made)
    sender.transaction.moves.append(Move(group_number, group.generation, part_place, goes_on))
    if ending == LOSING_POWER:
        lose_power(store)
    elif ending == GIVING_UP:
        end_transaction(store, sender)
    else:
        group.read_on(part_place, goes_on)
        do_transaction(store, sender, ending)
    return [len(made), goes_on]
