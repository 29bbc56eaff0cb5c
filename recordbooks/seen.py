"""What is decided, stable, counts and is seen in a part."""

from recordbooks.records import BY_ITSELF, MARK_DONE, MARK_GIVEN_UP, NO_KEY, WITHIN


def decisions(records):
    # Walked from behind, the mark last met of a sender is the first one behind a record.
    marks = {}
    decided = {}
    for record in reversed(records):
        if record.kind in (MARK_DONE, MARK_GIVEN_UP):
            marks[record.sender] = record.kind
        elif record.kind == WITHIN and record.sender in marks:
            decided[record.place] = marks[record.sender]
    return decided


def stable_up_to(part):
    records = part.records_there()
    decided = decisions(records)
    for record in records:
        if record.kind == WITHIN and record.place not in decided:
            return min(record.place, part.on_disk)
    return part.on_disk


def counts(record, decided):
    return record.kind == BY_ITSELF or decided.get(record.place) == MARK_DONE


def seen_records(part):
    records = part.records_there()
    decided = decisions(records)
    stable = stable_up_to(part)
    return [record for record in records if record.place < stable and counts(record, decided)]


# By key, the last record seen of it.
def last_seen(part):
    last = {}
    for record in seen_records(part):
        if record.key != NO_KEY:
            last[record.key] = record
    return last
