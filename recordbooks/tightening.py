"""How a part is made tight."""

from recordbooks.records import MARK_GIVEN_UP
from recordbooks.seen import decisions, last_seen, seen_records, stable_up_to


def overtaken(part):
    last = last_seen(part)
    seen = [record for record in seen_records(part) if record.key in last]
    return [record for record in seen if record.place < last[record.key].place]


def given_up(part):
    records = part.records_there()
    decided = decisions(records)
    stable = stable_up_to(part)
    below = [record for record in records if record.place < stable]
    return [record for record in below if decided.get(record.place) == MARK_GIVEN_UP]


# By key, the place of the first record that has it, whether it counts or not (marks have no key).
def first_places(records):
    first = {}
    for record in records:
        if record.key not in first:
            first[record.key] = record.place
    return first


def taking_nothing_away(part):
    first = first_places(part.records_there())
    taking = [record for record in seen_records(part) if record.value is None]
    return [record for record in taking if record.place == first[record.key]]


# All is looked at before anything goes; a dict, since a record may have to go for two causes.
def places_to_go(part):
    places = {}
    for record in overtaken(part) + given_up(part) + taking_nothing_away(part):
        if record.place < part.open_segment.first:
            places[record.place] = True
    return places


# Gives back how many records went.
def make_tight(part):
    places = places_to_go(part)
    part.let_records_go(places)
    return len(places)
