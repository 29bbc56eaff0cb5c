"""The calls on one part: 21 find, 22 findtime, 23 read, 25 part."""

from recordbooks.ranges import check_at_least_0, check_careful, check_how_many
from recordbooks.reading import read_part
from recordbooks.refusals import NoneFound
from recordbooks.rows import row_of, with_rows
from recordbooks.seen import stable_up_to


# A part is told by its book and its place there.
def take_address(reader):
    book_place = reader.take_number()
    part_place = reader.take_number()
    return (book_place, part_place)


def first_told(records):
    if records == []:
        raise NoneFound()
    return with_rows([records[0].place], [row_of(records[0])])


def answer_find(store, reader):
    address = take_address(reader)
    place = reader.take_number()
    part = store.part_at(address)
    check_at_least_0(place)
    return first_told([record for record in part.records_there() if record.place >= place])


def answer_findtime(store, reader):
    address = take_address(reader)
    time = reader.take_number()
    part = store.part_at(address)
    check_at_least_0(time)
    return first_told([record for record in part.records_there() if record.time >= time])


def answer_read(store, reader):
    address = take_address(reader)
    place = reader.take_number()
    how_many = reader.take_number()
    careful = reader.take_number()
    part = store.part_at(address)
    check_at_least_0(place)
    check_how_many(how_many)
    check_careful(careful)
    reading = read_part(part, place, how_many, careful)
    return with_rows([reading.goes_on], [row_of(record) for record in reading.records])


def segments_row(part):
    row = []
    for segment in part.full_segments:
        row.extend([segment.first, part.behind(segment), len(segment.records)])
    return row


def answer_part(store, reader):
    part = store.part_at(take_address(reader))
    numbers = [part.begins_at(), part.open_segment.first, part.next_place, part.on_disk, stable_up_to(part)]
    return with_rows(numbers + [len(part.records_there())], [segments_row(part)])


PART_CALLS = {
    21: answer_find,
    22: answer_findtime,
    23: answer_read,
    25: answer_part,
}
