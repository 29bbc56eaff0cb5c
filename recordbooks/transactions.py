"""What senders put in, and how transactions end, also where power is lost."""

from recordbooks.records import BY_ITSELF, MARK_DONE, MARK_GIVEN_UP, WITHIN, Record, mark_of


# The transaction, if one is open, has that part from now on.
def kind_to_send(sender, address):
    if sender.transaction is None:
        return BY_ITSELF
    sender.transaction.note_part(address)
    return WITHIN


# Puts a record in under the sender's next number there, and gives back its place.
def send_next(store, sender, address, key, time, value):
    part = store.part_at(address)
    number = len(part.places_told_by(sender.number)) + 1
    kind = kind_to_send(sender, address)
    return part.put_in(Record(time, key, value, sender.number, number, kind))


def mark_first_parts(store, sender, count):
    transaction = sender.transaction
    kind = MARK_DONE if transaction.is_decided else MARK_GIVEN_UP
    # Marks that were set before power was lost are on the disk: only missing ones are put in.
    for address in transaction.parts[transaction.marked:count]:
        part = store.part_at(address)
        part.put_in(mark_of(sender.number, kind))
        part.flush()
    transaction.marked = count


# Ends it as done if it's decided, else as given up.
def end_transaction(store, sender):
    mark_first_parts(store, sender, len(sender.transaction.parts))
    sender.transaction = None


def lose_power(store):
    for part in store.all_parts():
        part.lose_unwritten()
    for sender in store.senders.values():
        if sender.transaction is not None:
            end_transaction(store, sender)
    for group in store.groups.values():
        group.read_from_kept()


def move_places(store, moves):
    for move in moves:
        group = store.group_at(move.group)
        group.move_kept(move.part, move.place)


def do_transaction(store, sender, marks_before_loss):
    transaction = sender.transaction
    for address in transaction.parts:
        part = store.part_at(address)
        part.flush()
    transaction.is_decided = True
    move_places(store, transaction.moves)
    if len(transaction.parts) > marks_before_loss:
        mark_first_parts(store, sender, marks_before_loss)
        lose_power(store)
    else:
        end_transaction(store, sender)
