"""A book: what its line told, and its parts."""

from recordbooks.parts import Part
from recordbooks.records import NO_KEY


class Book:
    # The name is a list of bytes; keep is None without KEEP.
    def __init__(self, name, part_count, segment_size, is_tight, keep):
        self.name = name
        self.segment_size = segment_size
        self.is_tight = is_tight
        self.keep = keep
        self.parts = [Part(segment_size, keep) for index in range(part_count)]

    def part_for(self, key):
        if key != NO_KEY:
            return key % len(self.parts)
        places = [part.next_place for part in self.parts]
        return places.index(min(places))

    def not_on_disk(self):
        return sum([part.not_on_disk() for part in self.parts])

    def flush(self):
        for part in self.parts:
            part.flush()
