"""The calls of groups: 13 group to 19 work."""

from recordbooks.groups import Group
from recordbooks.ranges import MOST_MARKS, check_careful, check_how_many, check_range
from recordbooks.reading import read_part
from recordbooks.refusals import NoSuchBook, ThereAlready
from recordbooks.rows import row_of, with_rows
from recordbooks.working import GIVING_UP, work_on

MOST_GROUP = 3
MOST_MEMBER = 5
NOBODY = -1


def answer_group(store, reader):
    number = reader.take_number()
    book_place = reader.take_number()
    check_range(number, 0, MOST_GROUP)
    book = store.book_at(book_place)
    if number in store.groups:
        raise ThereAlready()
    store.groups[number] = Group(book_place, len(book.parts))
    return [len(book.parts)]


def answer_join(store, reader):
    number = reader.take_number()
    member = reader.take_number()
    group = store.group_at(number)
    check_range(member, 0, MOST_MEMBER)
    group.take_in(member)
    return [group.generation]


def answer_leave(store, reader):
    number = reader.take_number()
    member = reader.take_number()
    group = store.group_at(number)
    group.let_out(member)
    return [group.generation]


def answer_fetch(store, reader):
    number = reader.take_number()
    member = reader.take_number()
    generation = reader.take_number()
    part_place = reader.take_number()
    how_many = reader.take_number()
    careful = reader.take_number()
    group = store.group_for(number, member, generation, part_place)
    check_how_many(how_many)
    check_careful(careful)
    part = store.part_at((group.book, part_place))
    reading = read_part(part, group.read_up_to[part_place], how_many, careful)
    group.read_on(part_place, reading.goes_on)
    return with_rows([reading.goes_on], [row_of(record) for record in reading.records])


def answer_keep(store, reader):
    number = reader.take_number()
    member = reader.take_number()
    generation = reader.take_number()
    part_place = reader.take_number()
    place = reader.take_number()
    group = store.group_for(number, member, generation, part_place)
    part = store.part_at((group.book, part_place))
    group.check_place(part_place, place, part.on_disk)
    group.keep_place(part_place, place)
    return [place]


def owners_row(group):
    return [NOBODY if owner is None else owner for owner in group.owners]


def answer_groupat(store, reader):
    group = store.group_at(reader.take_number())
    rows = [group.members, owners_row(group), group.kept, group.read_up_to]
    return with_rows([group.generation, group.book], rows)


def check_target(store, group, target):
    store.part_at(target)
    if target[0] == group.book:
        raise NoSuchBook()


def answer_work(store, reader):
    group_number = reader.take_number()
    member = reader.take_number()
    generation = reader.take_number()
    part_place = reader.take_number()
    sender_number = reader.take_number()
    epoch = reader.take_number()
    book_place = reader.take_number()
    how_many = reader.take_number()
    ending = reader.take_number()
    group = store.group_for(group_number, member, generation, part_place)
    sender = store.sender_at(sender_number, epoch)
    target = (book_place, part_place)
    check_target(store, group, target)
    check_how_many(how_many)
    check_range(ending, GIVING_UP, MOST_MARKS)
    return work_on(store, group_number, target, sender, how_many, ending)


GROUP_CALLS = {
    13: answer_group,
    14: answer_join,
    15: answer_leave,
    16: answer_fetch,
    17: answer_keep,
    18: answer_groupat,
    19: answer_work,
}
