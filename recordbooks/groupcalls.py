"""The calls of groups: 13 group."""

from recordbooks.groups import Group
from recordbooks.ranges import check_range
from recordbooks.refusals import ThereAlready

MOST_GROUP = 3


def answer_group(store, reader):
    number = reader.take_number()
    book_place = reader.take_number()
    check_range(number, 0, MOST_GROUP)
    book = store.book_at(book_place)
    if number in store.groups:
        raise ThereAlready()
    store.groups[number] = Group(book_place, len(book.parts))
    return [len(book.parts)]


GROUP_CALLS = {
    13: answer_group,
}
