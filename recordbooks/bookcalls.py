"""The calls on books and on the whole store: 0 clear to 6 cut."""

from recordbooks.ranges import check_key, check_text, check_time, check_value
from recordbooks.records import BY_ITSELF, NO_KEY, Record
from recordbooks.refusals import ThereAlready
from recordbooks.transactions import lose_power
from recordbooks.wording import books_of, first_fault, shown


def answer_clear(store, reader):
    store.start_anew()
    return [0]


def answer_books(store, reader):
    text = reader.take_row()
    if len(store.books) > 0:
        raise ThereAlready()
    check_text(text)
    fault = first_fault(text)
    if fault != []:
        return [1] + fault
    store.books = books_of(text)
    return [0, len(store.books)]


def answer_show(store, reader):
    answer = [len(store.books)]
    for book in store.books:
        line = shown(book)
        answer.append(len(line))
        answer.extend(line)
    return answer


def put_by_nobody(book, key, time, value):
    part_place = book.part_for(key)
    part = book.parts[part_place]
    place = part.put_in(Record(time, key, value, 0, 0, BY_ITSELF))
    return [part_place, place]


def answer_put(store, reader):
    book_place = reader.take_number()
    key = reader.take_number()
    time = reader.take_number()
    value = reader.take_row()
    book = store.book_at(book_place)
    if key != NO_KEY:
        check_key(key)
    check_time(time)
    check_value(value)
    return put_by_nobody(book, key, time, value)


def answer_remove(store, reader):
    book_place = reader.take_number()
    key = reader.take_number()
    time = reader.take_number()
    book = store.book_at(book_place)
    check_key(key)
    check_time(time)
    return put_by_nobody(book, key, time, None)


def answer_flush(store, reader):
    book = store.book_at(reader.take_number())
    count = book.not_on_disk()
    book.flush()
    return [count]


def answer_cut(store, reader):
    count = sum([book.not_on_disk() for book in store.books])
    lose_power(store)
    return [count]


BOOK_CALLS = {
    0: answer_clear,
    1: answer_books,
    2: answer_show,
    3: answer_put,
    4: answer_remove,
    5: answer_flush,
    6: answer_cut,
}
