"""The calls on books and on the whole store: 0 clear to 6 cut, 20 tighten, 24 map, 27 counts."""

from recordbooks.ranges import check_key, check_text, check_time, check_value
from recordbooks.records import BY_ITSELF, NO_KEY, Record
from recordbooks.refusals import NotTight, ThereAlready
from recordbooks.rows import with_rows
from recordbooks.seen import last_seen
from recordbooks.tightening import make_tight
from recordbooks.transactions import lose_power
from recordbooks.wording import books_of, first_fault, shown


def answer_clear(store, reader):
    store.start_anew()
    return [0]


def answer_books(store, reader):
    text = reader.take_row()
    if len(store.books) > 0:
        raise ThereAlready()
    check_text(text)
    fault = first_fault(text)
    if fault != []:
        return [1] + fault
    store.books = books_of(text)
    return [0, len(store.books)]


def answer_show(store, reader):
    return with_rows([len(store.books)], [shown(book) for book in store.books])


def put_by_nobody(book, key, time, value):
    part_place = book.part_for(key)
    part = book.parts[part_place]
    place = part.put_in(Record(time, key, value, 0, 0, BY_ITSELF))
    return [part_place, place]


def answer_put(store, reader):
    book_place = reader.take_number()
    key = reader.take_number()
    time = reader.take_number()
    value = reader.take_row()
    book = store.book_at(book_place)
    if key != NO_KEY:
        check_key(key)
    check_time(time)
    check_value(value)
    return put_by_nobody(book, key, time, value)


def answer_remove(store, reader):
    book_place = reader.take_number()
    key = reader.take_number()
    time = reader.take_number()
    book = store.book_at(book_place)
    check_key(key)
    check_time(time)
    return put_by_nobody(book, key, time, None)


def answer_flush(store, reader):
    book = store.book_at(reader.take_number())
    count = book.not_on_disk()
    book.flush()
    return [count]


def answer_cut(store, reader):
    count = sum([book.not_on_disk() for book in store.books])
    lose_power(store)
    return [count]


def answer_tighten(store, reader):
    book = store.book_at(reader.take_number())
    if not book.is_tight:
        raise NotTight()
    return [sum([make_tight(part) for part in book.parts])]


# By key, the value in the first part in which it has one.
def values_of(book):
    found = {}
    for part in book.parts:
        last = last_seen(part)
        for key in last:
            if last[key].value is not None and key not in found:
                found[key] = last[key].value
    return found


def answer_map(store, reader):
    book = store.book_at(reader.take_number())
    found = values_of(book)
    return with_rows([len(found)], [[key] + found[key] for key in sorted(found)])


def answer_counts(store, reader):
    records = sum([len(part.records_there()) for part in store.all_parts()])
    return [len(store.books), len(store.senders), len(store.groups), records]


BOOK_CALLS = {
    0: answer_clear,
    1: answer_books,
    2: answer_show,
    3: answer_put,
    4: answer_remove,
    5: answer_flush,
    6: answer_cut,
    20: answer_tighten,
    24: answer_map,
    27: answer_counts,
}
