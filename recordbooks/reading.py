"""Reading a part from a place on."""

from recordbooks.records import BY_ITSELF, WITHIN
from recordbooks.seen import seen_records, stable_up_to


class Reading:
    # The records got, and where one goes on.
    def __init__(self, records, goes_on):
        self.records = records
        self.goes_on = goes_on


def records_by_care(part, careful):
    if careful == 1:
        return seen_records(part)
    return [record for record in part.records_there() if record.kind in (BY_ITSELF, WITHIN)]


def end_by_care(part, careful):
    if careful == 1:
        return stable_up_to(part)
    return part.next_place


def read_part(part, place, how_many, careful):
    found = [record for record in records_by_care(part, careful) if record.place >= place]
    got = found[:how_many]
    if len(got) == how_many:
        return Reading(got, got[-1].place + 1)
    return Reading(got, max(place, end_by_care(part, careful)))
