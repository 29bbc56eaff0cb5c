import unittest

from tests.calling import (Bench, begin, books, clear, counts, cut, done, fetch, flush, giveup, group, join, last, leave,
                           map_of, part_at, place, put, remove, run, send, sender, senderat, tighten, work)

HUGE = 10 ** 18
BOOKS = books("BOOK a PARTS 2 SEGMENT 4/BOOK b PARTS 3 SEGMENT 4/BOOK c PARTS 1 SEGMENT 2 KEEP 2/BOOK d PARTS 1 SEGMENT 2 TIGHT")


class Map(unittest.TestCase):
    def test_keys_rise(self):
        told = last(BOOKS, put(0, 9, 1, [7]), put(0, 2, 1, [5, 6]), put(0, 99, 1, []), put(0, 0, 1, [-1]), flush(0), map_of(0))
        self.assertEqual(told, [4, 2, 0, -1, 3, 2, 5, 6, 2, 9, 7, 1, 99])

    def test_the_last_value_counts(self):
        told = last(BOOKS, put(0, 2, 9, [5]), put(0, 2, 1, [6]), put(0, 4, 1, [1]), flush(0), map_of(0))
        self.assertEqual(told, [2, 2, 2, 6, 2, 4, 1])

    def test_keys_taken_away(self):
        calls = [BOOKS, put(0, 2, 1, [5]), put(0, 4, 1, [6]), remove(0, 2), flush(0)]
        self.assertEqual(last(*calls, map_of(0)), [1, 2, 4, 6])
        self.assertEqual(last(*calls, put(0, 2, 1, [8]), flush(0), map_of(0)), [2, 2, 2, 8, 2, 4, 6])
        self.assertEqual(last(BOOKS, remove(0, 7), flush(0), map_of(0)), [0])

    def test_only_what_is_seen(self):
        calls = [BOOKS, sender(1), put(0, 2, 1, [5]), flush(0), begin(1, 1), send(1, 1, 1, 0, 2, 1, [6])]
        self.assertEqual(last(BOOKS, put(0, 2, 1, [5]), map_of(0)), [0])
        self.assertEqual(last(*calls, flush(0), map_of(0)), [1, 2, 2, 5])
        self.assertEqual(last(*calls, done(1, 1), map_of(0)), [1, 2, 2, 6])
        self.assertEqual(last(*calls, giveup(1, 1), map_of(0)), [1, 2, 2, 5])
        self.assertEqual(last(*calls, put(0, 4), flush(0), map_of(0)), [1, 2, 2, 5])

    def test_records_without_a_key(self):
        self.assertEqual(last(BOOKS, put(0, -1, 1, [5]), put(0, 3, 1, [6]), flush(0), map_of(0)), [1, 2, 3, 6])

    def test_the_first_part_in_which_a_key_has_a_value(self):
        # Key 3 lies in part 1 of book 0, so work puts it into part 1 of book 1, while put goes to part 0 there.
        bench = Bench(BOOKS, sender(1), put(0, 3), flush(0), group(0, 0), join(0, 0), work(0, 0, 1, 1, 1, 1, 1))
        told = bench.run(map_of(1), put(1, 3, 0, [9]), map_of(1), flush(1), map_of(1), remove(1, 3), flush(1), map_of(1))
        self.assertEqual([told[0], told[2], told[4], told[7]], [[1, 2, 3, 1], [1, 2, 3, 1], [1, 2, 3, 9], [1, 2, 3, 1]])

    def test_several_parts_in_one_row_of_keys(self):
        told = last(BOOKS, *[put(1, key, 0, [key]) for key in (5, 4, 3, 2, 1, 0)], flush(1), map_of(1))
        self.assertEqual(told, [6, 2, 0, 0, 2, 1, 1, 2, 2, 2, 2, 3, 3, 2, 4, 4, 2, 5, 5])

    def test_segments_that_went(self):
        told = run(BOOKS, put(2, 1, 0, [1]), put(2, 2, 0, [2]), map_of(2), put(2, 3), put(2, 2), map_of(2))
        self.assertEqual((told[3], told[6]), ([2, 2, 1, 1, 2, 2, 2], [2, 1, 2, 1, 3]))

    def test_segments_made_tight(self):
        told = run(BOOKS, put(3, 1, 0, [1]), put(3, 1, 0, [2]), put(3, 2), remove(3, 2), map_of(3), tighten(3), map_of(3))
        self.assertEqual(told[5:], [[1, 2, 1, 2], [2], [1, 2, 1, 2]])

    def test_no_such_book(self):
        for book in (-1, 4, HUGE, -HUGE):
            self.assertEqual(last(BOOKS, map_of(book)), [-2])

    def test_a_value_is_not_changed_by_what_is_answered(self):
        told = run(BOOKS, put(0, 2, 0, [5]), flush(0), map_of(0), map_of(0))
        self.assertEqual(told[3], told[4])


class PartCall(unittest.TestCase):
    def test_at_first(self):
        self.assertEqual(last(BOOKS, part_at(0, 1)), [0, 0, 0, 0, 0, 0, 0])

    def test_number_by_number(self):
        told = run(BOOKS, sender(1), *[put(2, key) for key in (1, 2, 3)], part_at(2, 0), put(2, 4), put(2, 5), part_at(2, 0),
                   flush(2), part_at(2, 0), begin(1, 1), send(1, 1, 1, 2, 0), part_at(2, 0))
        self.assertEqual([told[k] for k in (5, 8, 10, 13)], [
            [0, 2, 3, 2, 2, 3, 3, 0, 2, 2], [2, 4, 5, 4, 4, 3, 3, 2, 4, 2], [2, 4, 5, 5, 5, 3, 3, 2, 4, 2],
            [4, 6, 6, 6, 5, 2, 3, 4, 6, 2],
        ])

    def test_stable_and_on_the_disk(self):
        calls = [BOOKS, sender(1), put(0, 0), begin(1, 1), send(1, 1, 1, 0, 0)]
        self.assertEqual(last(*calls, part_at(0, 0)), [0, 0, 2, 0, 0, 2, 0])
        self.assertEqual(last(*calls, flush(0), part_at(0, 0)), [0, 0, 2, 2, 1, 2, 0])
        self.assertEqual(last(*calls, giveup(1, 1), part_at(0, 0)), [0, 0, 3, 3, 3, 3, 0])
        self.assertEqual(last(*calls, done(1, 1), put(0, 0), part_at(0, 0)), [0, 4, 4, 4, 4, 4, 3, 0, 4, 4])
        self.assertEqual(last(*calls, cut(), part_at(0, 0)), [0, 0, 1, 1, 1, 1, 0])

    def test_several_full_segments(self):
        told = run(BOOKS, *[put(3, 1) for turn in range(7)], part_at(3, 0), tighten(3), part_at(3, 0), flush(3), tighten(3),
                   part_at(3, 0), cut(), part_at(3, 0))
        self.assertEqual(told[8:], [
            [0, 6, 7, 6, 6, 7, 9, 0, 2, 2, 2, 4, 2, 4, 6, 2], [5], [0, 6, 7, 6, 6, 2, 9, 0, 2, 0, 2, 4, 0, 4, 6, 1], [1], [1],
            [0, 6, 7, 7, 7, 1, 9, 0, 2, 0, 2, 4, 0, 4, 6, 0], [0], [0, 6, 7, 7, 7, 1, 9, 0, 2, 0, 2, 4, 0, 4, 6, 0],
        ])

    def test_all_segments_went(self):
        told = last(books("BOOK a PARTS 1 SEGMENT 2 KEEP 0"), *[put(0, 1) for turn in range(4)], part_at(0, 0))
        self.assertEqual(told, [4, 4, 4, 4, 4, 0, 0])

    def test_no_such_part(self):
        for book, part in ((-1, 0), (4, 0), (0, 2), (0, -1), (2, 1), (HUGE, 0), (0, HUGE), (-HUGE, 0), (0, -HUGE)):
            self.assertEqual(last(BOOKS, part_at(book, part)), [-2])


class SenderAt(unittest.TestCase):
    def test_without_a_transaction(self):
        self.assertEqual(run(BOOKS, sender(8), senderat(8), sender(8), senderat(8))[2:], [[1, 0], [2], [2, 0]])

    def test_a_transaction_without_parts_and_places(self):
        self.assertEqual(last(BOOKS, sender(1), begin(1, 1), senderat(1)), [1, 1, 0, 0])

    def test_parts_in_the_order_in_which_it_first_put_into_them(self):
        told = last(BOOKS, sender(1), begin(1, 1), send(1, 1, 1, 1, 5), send(1, 1, 1, 0, 1), send(1, 1, 2, 1, 2),
                    send(1, 1, 1, 1, 0), senderat(1))
        self.assertEqual(told, [1, 1, 6, 1, 2, 0, 1, 1, 0, 0])

    def test_places(self):
        told = run(BOOKS, sender(1), put(0, 0), put(0, 0), put(0, 1), flush(0), group(3, 0), join(3, 4), join(3, 5),
                   leave(3, 5), join(3, 5), fetch(3, 4, 4, 0), fetch(3, 5, 4, 1), begin(1, 1), send(1, 1, 1, 2, 0),
                   place(1, 1, 3, 4, 4, 0, 2), place(1, 1, 3, 5, 4, 1, 1), place(1, 1, 3, 4, 4, 0, 1), senderat(1))
        self.assertEqual(told[-4:], [[1], [2], [3], [1, 1, 2, 2, 0, 12, 3, 4, 0, 2, 3, 4, 1, 1, 3, 4, 0, 1]])

    def test_when_it_ended(self):
        calls = [BOOKS, sender(1), begin(1, 1), send(1, 1, 1, 0, 0)]
        self.assertEqual(last(*calls, senderat(1)), [1, 1, 2, 0, 0, 0])
        for ending in (done(1, 1), done(1, 1, 0), giveup(1, 1), cut()):
            self.assertEqual(last(*calls, ending, senderat(1)), [1, 0])
        self.assertEqual(last(*calls, sender(1), senderat(1)), [2, 0])

    def test_no_such_sender(self):
        for number in (-1, 0, 2, 8, 9, HUGE, -HUGE):
            self.assertEqual(last(BOOKS, sender(1), senderat(number)), [-5])

    def test_it_changes_nothing(self):
        bench = Bench(BOOKS, sender(1), begin(1, 1), send(1, 1, 1, 0, 0))
        before = bench.state()
        bench.run(senderat(1), senderat(2), counts(), part_at(0, 0), part_at(9, 0), map_of(0), map_of(9))
        self.assertEqual(bench.state(), before)


class Counts(unittest.TestCase):
    def test_at_first(self):
        self.assertEqual(run(counts(), BOOKS, counts()), [[0, 0, 0, 0], [0, 4], [4, 0, 0, 0]])

    def test_what_is_there(self):
        told = run(BOOKS, sender(3), sender(3), sender(1), group(0, 0), put(0, 0), put(1, 1), remove(1, 2), counts())
        self.assertEqual(told[-1], [4, 2, 1, 3])

    def test_marks_count(self):
        calls = [BOOKS, sender(1), begin(1, 1), send(1, 1, 1, 0, 0), send(1, 1, 1, 0, 1)]
        self.assertEqual(last(*calls, done(1, 1), counts()), [4, 1, 0, 4])
        self.assertEqual(last(*calls, giveup(1, 1), counts()), [4, 1, 0, 4])
        self.assertEqual(last(*calls, cut(), counts()), [4, 1, 0, 2])

    def test_what_went_does_not_count(self):
        self.assertEqual(last(BOOKS, *[put(2, 1) for turn in range(5)], counts()), [4, 0, 0, 3])
        self.assertEqual(last(BOOKS, *[put(3, 1) for turn in range(5)], tighten(3), counts()), [4, 0, 0, 2])
        self.assertEqual(last(BOOKS, *[put(3, 1) for turn in range(5)], cut(), counts()), [4, 0, 0, 4])

    def test_what_work_put_out(self):
        told = last(BOOKS, sender(1), put(0, 2), put(0, 2), flush(0), group(0, 0), join(0, 0), work(0, 0, 1, 0, 1, 1, 1),
                    counts())
        self.assertEqual(told, [4, 1, 1, 5])

    def test_after_clear(self):
        self.assertEqual(last(BOOKS, sender(1), put(0, 2), group(0, 0), clear(), counts()), [0, 0, 0, 0])


if __name__ == "__main__":
    unittest.main()
