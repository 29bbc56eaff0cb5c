"""A part: its segments, what of it is on the disk, what each sender told in it."""


class Segment:
    def __init__(self, first):
        self.first = first
        self.records = []


class Part:
    # keep is None in a book without KEEP.
    def __init__(self, segment_size, keep):
        self.segment_size = segment_size
        self.keep = keep
        self.full_segments = []
        self.open_segment = Segment(0)
        self.next_place = 0
        self.on_disk = 0
        # Kept apart from the records: a number stays told when its record goes with a segment.
        self.told_places = {}

    def begins_at(self):
        if len(self.full_segments) > 0:
            return self.full_segments[0].first
        return self.open_segment.first

    def records_there(self):
        records = []
        for segment in self.full_segments:
            records.extend(segment.records)
        return records + self.open_segment.records

    def not_on_disk(self):
        return self.next_place - self.on_disk

    def places_told_by(self, sender):
        return self.told_places.get(sender, [])

    def put_in(self, record):
        place = self.next_place
        record.place = place
        self.open_segment.records.append(record)
        self.next_place += 1
        if record.number > 0:
            self.told_places.setdefault(record.sender, []).append(place)
        if self.next_place == self.behind(self.open_segment):
            self.close_segment()
        return place

    def behind(self, segment):
        # Counted in places, not in records: a tight segment has fewer records.
        return segment.first + self.segment_size

    def close_segment(self):
        self.full_segments.append(self.open_segment)
        self.open_segment = Segment(self.next_place)
        self.flush()
        if self.keep is not None:
            self.let_segments_go()

    def let_segments_go(self):
        while len(self.full_segments) > 0:
            if self.next_place - self.behind(self.full_segments[0]) < self.keep:
                break
            self.full_segments.pop(0)

    # Only full segments are made tight; their places and the numbers told stay.
    def let_records_go(self, places):
        for segment in self.full_segments:
            segment.records = [record for record in segment.records if record.place not in places]

    def flush(self):
        self.on_disk = self.next_place

    def lose_unwritten(self):
        self.next_place = self.on_disk
        segment = self.open_segment
        segment.records = [record for record in segment.records if record.place < self.on_disk]
        for sender in list(self.told_places):
            places = self.told_places[sender]
            self.told_places[sender] = [place for place in places if place < self.on_disk]
