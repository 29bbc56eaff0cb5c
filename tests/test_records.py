import unittest

from tests.calling import Bench, begin, books, cut, flush, last, put, remove, run, send, sender

BILLION = 1000000000
ONE = books("BOOK a PARTS 1 SEGMENT 50")
FOUR = books("BOOK a PARTS 1 SEGMENT 50/BOOK b PARTS 4 SEGMENT 50")


class Put(unittest.TestCase):
    def test_places_in_the_order_in_which_they_came(self):
        self.assertEqual(run(ONE, put(0, 4, 9, [7]), put(0, -1, 3), put(0, 4, 1, [7]))[1:], [[0, 0], [0, 1], [0, 2]])

    def test_the_part_of_a_key(self):
        told = run(FOUR, *[put(1, key) for key in (0, 1, 2, 3, 4, 99, 98)])[1:]
        self.assertEqual(told, [[0, 0], [1, 0], [2, 0], [3, 0], [0, 1], [3, 1], [2, 1]])

    def test_the_part_with_three_parts(self):
        told = run(books("BOOK a PARTS 3 SEGMENT 5"), *[put(0, key) for key in (99, 98, 97, 5)])[1:]
        self.assertEqual(told, [[0, 0], [2, 0], [1, 0], [2, 1]])

    def test_without_a_key_the_least_next_place(self):
        told = run(FOUR, *[put(1, -1) for turn in range(6)])[1:]
        self.assertEqual(told, [[0, 0], [1, 0], [2, 0], [3, 0], [0, 1], [1, 1]])
        told = run(FOUR, put(1, 0), put(1, 0), put(1, 1), put(1, 3), put(1, -1), put(1, -1), put(1, -1))[5:]
        self.assertEqual(told, [[2, 0], [1, 1], [2, 1]])

    def test_the_next_place_counts_not_the_records_there(self):
        # With KEEP 0 part 0 is empty of records, yet its next place is 2.
        told = run(books("BOOK a PARTS 2 SEGMENT 1 KEEP 0"), put(0, 0), put(0, 0), put(0, 1), put(0, -1))
        self.assertEqual(told[-1], [1, 1])

    def test_a_record_is_kept_as_told(self):
        bench = Bench(ONE)
        value = [-BILLION, 0, BILLION, 4, 5]
        bench.run(put(0, 99, BILLION, value), put(0, -1, 0, []), remove(0, 0, 7))
        found = [(r.place, r.time, r.key, r.value, r.sender, r.number, r.kind) for r in bench.part(0, 0).records_there()]
        self.assertEqual(found, [(0, BILLION, 99, value, 0, 0, 0), (1, 0, -1, [], 0, 0, 0), (2, 7, 0, None, 0, 0, 0)])

    def test_no_such_book(self):
        for book in (-1, 2, 4, -10 ** 18, 10 ** 18):
            self.assertEqual(last(FOUR, put(book, 1, 1, [1])), [-2])
        self.assertEqual(last(put(0, 1)), [-2])

    def test_no_such_book_counts_first(self):
        self.assertEqual(last(ONE, put(1, 100, -1, [1] * 6)), [-2])

    def test_ranges(self):
        for key in (-1, 0, 99):
            self.assertEqual(last(ONE, put(0, key)), [0, 0])
        for key in (-2, 100, -10 ** 18, 10 ** 18):
            self.assertEqual(last(ONE, put(0, key)), [-1])
        for time in (0, BILLION):
            self.assertEqual(last(ONE, put(0, 1, time)), [0, 0])
        for time in (-1, BILLION + 1):
            self.assertEqual(last(ONE, put(0, 1, time)), [-1])

    def test_values(self):
        for value in ([], [BILLION] * 5, [-BILLION]):
            self.assertEqual(last(ONE, put(0, 1, 0, value)), [0, 0])
        for value in ([0] * 6, [0] * 20, [BILLION + 1], [0, 0, -BILLION - 1], [10 ** 18]):
            self.assertEqual(last(ONE, put(0, 1, 0, value)), [-1])

    def test_a_refusal_changes_nothing(self):
        bench = Bench(ONE, put(0, 1))
        before = bench.state()
        bench.run(put(1, 1), put(0, 100), put(0, 1, -1), put(0, 1, 0, [0] * 6))
        self.assertEqual(bench.state(), before)


class Remove(unittest.TestCase):
    def test_answers_as_put(self):
        self.assertEqual(run(FOUR, remove(1, 6, 1), put(1, 6, 1, [1]), remove(1, 2, 1))[1:], [[2, 0], [2, 1], [2, 2]])

    def test_refusals(self):
        self.assertEqual(last(ONE, remove(1, 1)), [-2])
        self.assertEqual(last(ONE, remove(-1, 1)), [-2])
        self.assertEqual(last(ONE, remove(1, -1, -1)), [-2])
        for key in (-1, -2, 100):
            self.assertEqual(last(ONE, remove(0, key)), [-1])
        for key in (0, 99):
            self.assertEqual(last(ONE, remove(0, key)), [0, 0])
        for time in (-1, BILLION + 1):
            self.assertEqual(last(ONE, remove(0, 1, time)), [-1])
        for time in (0, BILLION):
            self.assertEqual(last(ONE, remove(0, 1, time)), [0, 0])

    def test_a_refusal_changes_nothing(self):
        bench = Bench(ONE, put(0, 1))
        before = bench.state()
        bench.run(remove(1, 1), remove(0, -1), remove(0, 1, -1))
        self.assertEqual(bench.state(), before)


class Flush(unittest.TestCase):
    def test_how_many_were_not_on_the_disk(self):
        told = run(FOUR, put(0, 1), put(1, 0), put(1, 1), put(1, 1), flush(1), flush(1), put(1, 2), flush(1), flush(0))
        self.assertEqual(told[5:], [[3], [0], [2, 0], [1], [1]])

    def test_only_its_parts(self):
        self.assertEqual(run(FOUR, put(0, 1), put(1, 1), flush(1), cut())[3:], [[1], [1]])

    def test_no_such_book(self):
        for book in (-1, 2, 10 ** 18):
            self.assertEqual(run(FOUR, put(0, 1), flush(book), cut())[2:], [[-2], [1]])


class Segments(unittest.TestCase):
    def test_a_full_segment_is_on_the_disk(self):
        told = run(books("BOOK a PARTS 1 SEGMENT 3"), put(0, 1), put(0, 1), cut(), put(0, 1), put(0, 1), put(0, 1),
                   cut(), put(0, 1), flush(0), put(0, 1), put(0, 1), cut(), put(0, 1))
        self.assertEqual(told[3:], [[2], [0, 0], [0, 1], [0, 2], [0], [0, 3], [1], [0, 4], [0, 5], [0], [0, 6]])

    def test_a_segment_of_one_place(self):
        self.assertEqual(run(books("BOOK a PARTS 1 SEGMENT 1"), put(0, 1), flush(0), put(0, 1), cut(), put(0, 1))[2:],
                         [[0], [0, 1], [0], [0, 2]])

    def test_a_new_one_opens_at_the_next_place(self):
        bench = Bench(books("BOOK a PARTS 1 SEGMENT 3"), *[put(0, 1) for turn in range(7)])
        part = bench.part(0, 0)
        self.assertEqual([segment.first for segment in part.full_segments], [0, 3])
        self.assertEqual((part.open_segment.first, part.begins_at(), part.on_disk, part.next_place), (6, 0, 6, 7))
        self.assertEqual([record[0] for record in bench.records(0, 0)], [0, 1, 2, 3, 4, 5, 6])

    def test_places_count_not_records(self):
        # A tight segment has fewer records; its places stay.
        bench = Bench(books("BOOK a PARTS 1 SEGMENT 2 TIGHT"), *[put(0, 1) for turn in range(4)])
        bench.part(0, 0).full_segments[0].records.clear()
        self.assertEqual(bench.run(put(0, 1), cut(), put(0, 1)), [[0, 4], [1], [0, 4]])
        self.assertEqual([record[0] for record in bench.records(0, 0)], [2, 3, 4])
        self.assertEqual(bench.part(0, 0).begins_at(), 0)

    def begins(self, keep, count, size=2):
        bench = Bench(books(f"BOOK a PARTS 1 SEGMENT {size}{keep}"), *[put(0, 1) for turn in range(count)])
        part = bench.part(0, 0)
        self.assertEqual([record[0] for record in bench.records(0, 0)], list(range(part.begins_at(), count)))
        return part.begins_at()

    def test_without_keep_all_stay(self):
        self.assertEqual(self.begins("", 300), 0)
        self.assertEqual(self.begins(" TIGHT", 300), 0)

    def test_keep_0(self):
        self.assertEqual([self.begins(" KEEP 0", count) for count in range(7)], [0, 0, 2, 2, 4, 4, 6])

    def test_keep_m(self):
        # A segment goes when one gets full and m places or more lie behind it.
        self.assertEqual([self.begins(" KEEP 1", count) for count in range(8)], [0, 0, 0, 0, 2, 2, 4, 4])
        self.assertEqual([self.begins(" KEEP 2", count) for count in range(8)], [0, 0, 0, 0, 2, 2, 4, 4])
        self.assertEqual([self.begins(" KEEP 3", count) for count in range(9)], [0, 0, 0, 0, 0, 0, 2, 2, 4])
        self.assertEqual([self.begins(" KEEP 4", count) for count in range(9)], [0, 0, 0, 0, 0, 0, 2, 2, 4])

    def test_keep_with_long_segments(self):
        lines = "BOOK a PARTS 1 SEGMENT 50 KEEP 300"
        self.assertEqual(Bench(books(lines), *[put(0, 1) for turn in range(349)]).part(0, 0).begins_at(), 0)
        self.assertEqual(Bench(books(lines), *[put(0, 1) for turn in range(350)]).part(0, 0).begins_at(), 50)

    def test_it_begins_at_the_open_segment_without_a_full_one(self):
        bench = Bench(books("BOOK a PARTS 1 SEGMENT 2 KEEP 0"), *[put(0, 1) for turn in range(5)])
        self.assertEqual((bench.part(0, 0).begins_at(), bench.records(0, 0)), (4, [(4, 0, 0, 0)]))

    def test_places_go_on_when_segments_go(self):
        told = run(books("BOOK a PARTS 1 SEGMENT 2 KEEP 0"), *[put(0, 1) for turn in range(5)])
        self.assertEqual(told[1:], [[0, 0], [0, 1], [0, 2], [0, 3], [0, 4]])


class Cut(unittest.TestCase):
    def test_how_many_of_all_parts(self):
        told = run(FOUR, cut(), put(0, 1), put(1, 0), put(1, 3), put(1, 3), cut(), cut())
        self.assertEqual((told[1], told[6], told[7]), ([0], [4], [0]))

    def test_without_books(self):
        self.assertEqual(run(cut()), [[0]])

    def test_what_is_not_on_the_disk_is_gone(self):
        bench = Bench(FOUR, put(0, 1), put(0, 2), flush(0), put(0, 3), put(1, 0), put(1, 1))
        bench.run(cut())
        self.assertEqual([record[0] for record in bench.records(0, 0)], [0, 1])
        self.assertEqual(bench.records(1, 0) + bench.records(1, 1), [])
        self.assertEqual(bench.run(put(0, 1), put(1, 0)), [[0, 2], [0, 0]])

    def test_full_segments_stay(self):
        bench = Bench(books("BOOK a PARTS 1 SEGMENT 2"), *[put(0, 1) for turn in range(5)])
        bench.run(cut(), put(0, 1))
        self.assertEqual([record[0] for record in bench.records(0, 0)], [0, 1, 2, 3, 4])

    def test_the_open_segment_fills_from_the_disk_on(self):
        told = run(books("BOOK a PARTS 1 SEGMENT 3"), put(0, 1), flush(0), put(0, 1), cut(), put(0, 1), put(0, 1), cut())
        self.assertEqual(told[4:], [[1], [0, 1], [0, 2], [0]])

    def test_an_open_transaction_is_given_up(self):
        bench = Bench(FOUR, sender(1), begin(1, 1), send(1, 1, 1, 0, 1), flush(0), cut())
        self.assertEqual(bench.records(0, 0), [(0, 1, 1, 1), (1, 3, 1, 0)])


if __name__ == "__main__":
    unittest.main()
