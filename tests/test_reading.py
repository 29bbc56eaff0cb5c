import unittest

from tests.calling import (Bench, begin, books, cut, done, fetch, find, findtime, flush, giveup, group, groupat, join,
                           keep, last, places_got, put, read, remove, run, send, sender, tighten)

BILLION = 1000000000
HUGE = 10 ** 18

# Full segments at 0 and 4; place 8 is not on the disk; the record at 7 is not decided, so the part is stable up to 7.
MIXED = [
    books("BOOK a PARTS 1 SEGMENT 4/BOOK b PARTS 2 SEGMENT 2"), sender(1), sender(2), put(0, 1, 5, [7]), begin(1, 1),
    begin(2, 1), send(1, 1, 1, 0, 2, 6, [8]), send(2, 1, 1, 0, 3, 7, [9]), done(1, 1), giveup(2, 1), put(0, -1, 9, []),
    remove(0, 1, 3), begin(1, 1), send(1, 1, 2, 0, 2, 4, [6]), put(0, 4, 8, [1, 2]),
]
ROWS = [
    [0, 5, 1, 0, 0, 0, 1, 7],
    [1, 6, 2, 1, 1, 1, 1, 8],
    [2, 7, 3, 2, 1, 1, 1, 9],
    [3, 0, -1, 1, 0, 2, -1],
    [4, 0, -1, 2, 0, 3, -1],
    [5, 9, -1, 0, 0, 0, 0],
    [6, 3, 1, 0, 0, 0, -1],
    [7, 4, 2, 1, 2, 1, 1, 6],
    [8, 8, 4, 0, 0, 0, 2, 1, 2],
]
SEEN = [0, 1, 5, 6]
OF_KIND_0_OR_1 = [0, 1, 2, 5, 6, 7, 8]


def told_rows(places):
    told = []
    for place in places:
        told.extend([len(ROWS[place])] + ROWS[place])
    return told


# Member 3 of group 1 has the one part of MIXED.
def reading():
    return Bench(*MIXED, group(1, 0), join(1, 3))


class Read(unittest.TestCase):
    def test_carefully(self):
        self.assertEqual(last(*MIXED, read(0, 0, 0, 20, 1)), [7] + told_rows(SEEN))

    def test_not_carefully(self):
        self.assertEqual(last(*MIXED, read(0, 0, 0, 20, 0)), [9] + told_rows(OF_KIND_0_OR_1))

    def test_as_many_as_asked_for(self):
        for how_many, goes_on in ((1, 1), (2, 2), (3, 6), (4, 7)):
            self.assertEqual(last(*MIXED, read(0, 0, 0, how_many, 1)), [goes_on] + told_rows(SEEN[:how_many]))
        for how_many, goes_on in ((1, 1), (2, 2), (3, 3), (4, 6), (5, 7), (6, 8), (7, 9)):
            self.assertEqual(last(*MIXED, read(0, 0, 0, how_many, 0)), [goes_on] + told_rows(OF_KIND_0_OR_1[:how_many]))

    def test_just_as_many_goes_on_behind_the_last_one_got(self):
        # The mark at 1 lies between the last record and where the part is stable.
        calls = [books("BOOK a PARTS 1 SEGMENT 9"), sender(1), begin(1, 1), send(1, 1, 1, 0, 1), done(1, 1)]
        for careful in (0, 1):
            self.assertEqual(last(*calls, read(0, 0, 0, 1, careful))[0], 1)
            self.assertEqual(last(*calls, read(0, 0, 0, 2, careful))[0], 2)

    def test_from_every_place(self):
        for place in range(12):
            for careful, there, end in ((1, SEEN, 7), (0, OF_KIND_0_OR_1, 9)):
                got = [one for one in there if one >= place]
                with self.subTest(place=place, careful=careful):
                    told = last(*MIXED, read(0, 0, place, 20, careful))
                    self.assertEqual(told, [max(place, end)] + told_rows(got))
                    if len(got) > 0:
                        told = last(*MIXED, read(0, 0, place, 1, careful))
                        self.assertEqual(told, [got[0] + 1] + told_rows(got[:1]))

    def test_an_empty_part(self):
        self.assertEqual(run(*MIXED, read(1, 1, 0, 1, 1), read(1, 1, 0, 1, 0), read(1, 1, 4, 1, 0))[-3:], [[0], [0], [4]])

    def test_twenty_at_most(self):
        calls = [books("BOOK a PARTS 1 SEGMENT 50")] + [put(0, 1) for turn in range(30)] + [flush(0)]
        for careful in (0, 1):
            self.assertEqual(places_got(last(*calls, read(0, 0, 5, 20, careful))), [25] + list(range(5, 25)))
            self.assertEqual(places_got(last(*calls, read(0, 0, 10, 20, careful))), [30] + list(range(10, 30)))
            self.assertEqual(places_got(last(*calls, read(0, 0, 11, 20, careful))), [30] + list(range(11, 30)))

    def test_what_is_not_on_the_disk_is_not_seen(self):
        calls = [books("BOOK a PARTS 1 SEGMENT 50"), put(0, 1), put(0, 2)]
        told = run(*calls, read(0, 0), read(0, 0, 0, 20, 0), flush(0), read(0, 0), put(0, 3), read(0, 0), cut(),
                   read(0, 0, 0, 20, 0))
        self.assertEqual([places_got(told[k]) for k in (3, 4, 6, 8, 10)], [[0], [2, 0, 1], [2, 0, 1], [2, 0, 1], [2, 0, 1]])

    def test_undecided_then_done_or_given_up(self):
        calls = [books("BOOK a PARTS 1 SEGMENT 50"), sender(1), put(0, 1), begin(1, 1), send(1, 1, 1, 0, 2), put(0, 3),
                 flush(0)]
        self.assertEqual(places_got(last(*calls, read(0, 0))), [1, 0])
        self.assertEqual(places_got(last(*calls, read(0, 0, 2))), [2])
        self.assertEqual(places_got(last(*calls, done(1, 1), read(0, 0))), [4, 0, 1, 2])
        self.assertEqual(places_got(last(*calls, giveup(1, 1), read(0, 0))), [4, 0, 2])
        self.assertEqual(places_got(last(*calls, giveup(1, 1), read(0, 0, 0, 20, 0))), [4, 0, 1, 2])

    def test_segments_that_went(self):
        calls = [books("BOOK a PARTS 1 SEGMENT 2 KEEP 2")] + [put(0, turn) for turn in range(7)]
        self.assertEqual(places_got(last(*calls, read(0, 0))), [6, 4, 5])
        self.assertEqual(places_got(last(*calls, read(0, 0, 1, 1))), [5, 4])
        self.assertEqual(places_got(last(*calls, read(0, 0, 0, 20, 0))), [7, 4, 5, 6])

    def test_segments_made_tight(self):
        calls = [books("BOOK a PARTS 1 SEGMENT 3 TIGHT")] + [put(0, key) for key in (1, 2, 1, 1, 2, 3, 1)]
        self.assertEqual(run(*calls, flush(0), tighten(0))[-1], [4])
        self.assertEqual(places_got(last(*calls, flush(0), tighten(0), read(0, 0))), [7, 4, 5, 6])
        self.assertEqual(places_got(last(*calls, flush(0), tighten(0), read(0, 0, 0, 2))), [6, 4, 5])

    def test_ranges(self):
        for told in (-1, -HUGE):
            self.assertEqual(last(*MIXED, read(0, 0, told)), [-1])
        self.assertEqual(last(*MIXED, read(0, 0, HUGE, 20, 0)), [HUGE])
        self.assertEqual(last(*MIXED, read(0, 0, HUGE, 1, 1)), [HUGE])
        for how_many in (0, -1, 21, HUGE, -HUGE):
            self.assertEqual(last(*MIXED, read(0, 0, 0, how_many)), [-1])
        for careful in (-1, 2, HUGE, -HUGE):
            self.assertEqual(last(*MIXED, read(0, 0, 0, 1, careful)), [-1])

    def test_refusals_in_order(self):
        for book, part in ((-1, 0), (2, 0), (0, 1), (0, -1), (1, 2), (HUGE, 0), (0, -HUGE)):
            self.assertEqual(last(*MIXED, read(book, part, -1, 0, 2)), [-2])
        self.assertEqual(last(read(0, 0)), [-2])

    def test_it_changes_nothing(self):
        bench = Bench(*MIXED)
        before = bench.state()
        bench.run(read(0, 0), read(0, 0, 3, 2, 0), read(0, 0, -1), read(2, 0))
        self.assertEqual(bench.state(), before)


class Fetch(unittest.TestCase):
    def test_it_goes_on_where_it_ended(self):
        told = reading().run(fetch(1, 3, 1, 0, 2), fetch(1, 3, 1, 0, 1), fetch(1, 3, 1, 0, 2), fetch(1, 3, 1, 0, 2))
        self.assertEqual(told, [[2] + told_rows([0, 1]), [6] + told_rows([5]), [7] + told_rows([6]), [7]])

    def test_not_carefully_then_carefully(self):
        told = reading().run(fetch(1, 3, 1, 0, 5, 0), fetch(1, 3, 1, 0, 5, 0), fetch(1, 3, 1, 0, 5, 1), flush(0),
                             giveup(1, 1), fetch(1, 3, 1, 0, 5, 1), groupat(1))
        self.assertEqual(told, [[7] + told_rows([0, 1, 2, 5, 6]), [9] + told_rows([7, 8]), [9], [1], [1], [10],
                                [1, 0, 1, 3, 1, 3, 1, 0, 1, 10]])

    def test_each_part_and_each_group_by_itself(self):
        told = run(*MIXED, put(1, 0), put(1, 1), put(1, 1), flush(1), group(0, 1), group(2, 1), join(0, 1), join(2, 1),
                   fetch(0, 1, 1, 1), groupat(0), groupat(2), fetch(0, 1, 1, 0))[-4:]
        self.assertEqual(places_got(told[0]), [2, 0, 1])
        self.assertEqual((told[1][-3:], told[2][-3:]), ([2, 0, 2], [2, 0, 0]))
        self.assertEqual(places_got(told[3]), [1, 0])

    def test_from_the_kept_place_when_power_is_lost(self):
        bench = reading()
        bench.run(fetch(1, 3, 1, 0, 20, 0), keep(1, 3, 1, 0, 6), cut())
        self.assertEqual(places_got(bench.run(fetch(1, 3, 1, 0))[0]), [9, 6])

    def test_ranges(self):
        for how_many in (1, 20):
            self.assertEqual(reading().run(fetch(1, 3, 1, 0, how_many, 1))[0][0], min(7, how_many))
        for how_many in (0, -1, 21, HUGE, -HUGE):
            self.assertEqual(reading().run(fetch(1, 3, 1, 0, how_many)), [[-1]])
        for careful in (-1, 2, HUGE, -HUGE):
            self.assertEqual(reading().run(fetch(1, 3, 1, 0, 1, careful)), [[-1]])

    def test_refusals_in_order(self):
        told = reading().run(fetch(0, 9, 9, 9, 0, 2), fetch(1, 9, 9, 9, 0, 2), fetch(1, 9, 1, 9, 0, 2),
                             fetch(1, 9, 1, 0, 0, 2), fetch(1, 3, 1, 1, 0, 2), fetch(1, 3, 1, -1, 0, 2),
                             fetch(1, 3, 1, 0, 0, 2))
        self.assertEqual(told, [[-4], [-8], [-9], [-9], [-9], [-9], [-1]])

    def test_a_refusal_changes_nothing(self):
        bench = reading()
        bench.run(fetch(1, 3, 1, 0, 1))
        before = bench.state()
        bench.run(fetch(0, 3, 1, 0), fetch(1, 3, 0, 0), fetch(1, 2, 1, 0), fetch(1, 3, 1, 1), fetch(1, 3, 1, 0, 0),
                  fetch(1, 3, 1, 0, 1, 2))
        self.assertEqual(bench.state(), before)


class Keep(unittest.TestCase):
    def test_the_place_is_kept(self):
        bench = reading()
        told = bench.run(fetch(1, 3, 1, 0, 2), keep(1, 3, 1, 0, 1), groupat(1), keep(1, 3, 1, 0, 2), groupat(1))
        self.assertEqual(told[1:], [[1], [1, 0, 1, 3, 1, 3, 1, 1, 1, 2], [2], [1, 0, 1, 3, 1, 3, 1, 2, 1, 2]])

    def test_below_the_kept_one(self):
        told = reading().run(fetch(1, 3, 1, 0, 2), keep(1, 3, 1, 0, -1), keep(1, 3, 1, 0, 0), keep(1, 3, 1, 0, 2),
                             keep(1, 3, 1, 0, 1), keep(1, 3, 1, 0, 2))
        self.assertEqual(told[1:], [[-1], [0], [2], [-1], [2]])

    def test_above_the_one_read_up_to(self):
        told = reading().run(keep(1, 3, 1, 0, 1), keep(1, 3, 1, 0, 0), fetch(1, 3, 1, 0, 2), keep(1, 3, 1, 0, 3),
                             keep(1, 3, 1, 0, 2))
        self.assertEqual((told[:2], told[3:]), ([[-1], [0]], [[-1], [2]]))

    def test_above_what_is_on_the_disk(self):
        told = reading().run(fetch(1, 3, 1, 0, 20, 0), keep(1, 3, 1, 0, 9), keep(1, 3, 1, 0, 8), flush(0),
                             keep(1, 3, 1, 0, 9))
        self.assertEqual(told[1:], [[-1], [8], [1], [9]])

    def test_where_it_is_not_stable(self):
        told = reading().run(fetch(1, 3, 1, 0, 20, 0), keep(1, 3, 1, 0, 8), cut(), fetch(1, 3, 1, 0), groupat(1))
        self.assertEqual(told[1:], [[8], [1], [9], [1, 0, 1, 3, 1, 3, 1, 8, 1, 9]])

    def test_refusals_in_order(self):
        told = reading().run(keep(0, 9, 9, 9, 9), keep(1, 9, 9, 9, 9), keep(1, 9, 1, 9, 9), keep(1, 9, 1, 0, 9),
                             keep(1, 3, 1, 1, 9), keep(1, 3, 1, 0, HUGE), keep(1, 3, 1, 0, -HUGE))
        self.assertEqual(told, [[-4], [-8], [-9], [-9], [-9], [-1], [-1]])

    def test_a_refusal_changes_nothing(self):
        bench = reading()
        bench.run(fetch(1, 3, 1, 0, 2), keep(1, 3, 1, 0, 1))
        before = bench.state()
        bench.run(keep(0, 3, 1, 0, 2), keep(1, 3, 0, 0, 2), keep(1, 2, 1, 0, 2), keep(1, 3, 1, 1, 2), keep(1, 3, 1, 0, 0),
                  keep(1, 3, 1, 0, 3))
        self.assertEqual(bench.state(), before)


class Find(unittest.TestCase):
    def test_every_record(self):
        for place in range(9):
            self.assertEqual(last(*MIXED, find(0, 0, place)), [place] + told_rows([place]))

    def test_none(self):
        for place in (9, 10, HUGE):
            self.assertEqual(last(*MIXED, find(0, 0, place)), [-6])
        self.assertEqual(last(*MIXED, find(1, 0, 0)), [-6])

    def test_over_gaps(self):
        calls = [books("BOOK a PARTS 1 SEGMENT 3 TIGHT")] + [put(0, key, key, [key]) for key in (1, 2, 1, 1, 2, 3, 1)]
        told = run(*calls, flush(0), tighten(0), find(0, 0, 0), find(0, 0, 4), find(0, 0, 5), find(0, 0, 6))[-4:]
        self.assertEqual(told, [[4, 8, 4, 2, 2, 0, 0, 0, 1, 2], [4, 8, 4, 2, 2, 0, 0, 0, 1, 2],
                                [5, 8, 5, 3, 3, 0, 0, 0, 1, 3], [6, 8, 6, 1, 1, 0, 0, 0, 1, 1]])

    def test_segments_that_went(self):
        calls = [books("BOOK a PARTS 1 SEGMENT 2 KEEP 0"), put(0, 1), put(0, 1), find(0, 0, 0), put(0, 5, 3), find(0, 0, 0)]
        self.assertEqual(run(*calls)[3:], [[-6], [0, 2], [2, 7, 2, 3, 5, 0, 0, 0, 0]])

    def test_refusals_in_order(self):
        for book, part in ((-1, 0), (2, 0), (0, 1), (0, -1), (1, 2), (HUGE, 0), (0, HUGE), (-HUGE, -HUGE)):
            self.assertEqual(last(*MIXED, find(book, part, -1)), [-2])
        for place in (-1, -HUGE):
            self.assertEqual(last(*MIXED, find(0, 0, place)), [-1])
            self.assertEqual(last(*MIXED, find(1, 0, place)), [-1])


class FindTime(unittest.TestCase):
    def test_the_first_in_order_of_places(self):
        for time, place in ((0, 0), (5, 0), (6, 1), (7, 2), (8, 5), (9, 5)):
            self.assertEqual(last(*MIXED, findtime(0, 0, time)), [place] + told_rows([place]))

    def test_none(self):
        for time in (10, BILLION, BILLION + 1, HUGE):
            self.assertEqual(last(*MIXED, findtime(0, 0, time)), [-6])
        self.assertEqual(last(*MIXED, findtime(1, 0, 0)), [-6])

    def test_the_greatest_time(self):
        calls = [books("BOOK a PARTS 1 SEGMENT 2"), put(0, 1, 3), put(0, 1, BILLION)]
        self.assertEqual(run(*calls, findtime(0, 0, BILLION), findtime(0, 0, BILLION + 1))[3:],
                         [[1, 7, 1, BILLION, 1, 0, 0, 0, 0], [-6]])

    def test_marks_have_time_0(self):
        # The record is lost with power; its mark has place 0.
        calls = [books("BOOK a PARTS 1 SEGMENT 9"), sender(1), begin(1, 1), send(1, 1, 1, 0, 1, 8), cut(), put(0, 1, 1)]
        told = run(*calls, findtime(0, 0, 0), findtime(0, 0, 1), findtime(0, 0, 2))[-3:]
        self.assertEqual(told, [[0, 7, 0, 0, -1, 1, 0, 3, -1], [1, 7, 1, 1, 1, 0, 0, 0, 0], [-6]])

    def test_the_open_segment(self):
        calls = [books("BOOK a PARTS 1 SEGMENT 2"), put(0, 1, 3), put(0, 1, 2), put(0, 1, 7), put(0, 1, 4)]
        self.assertEqual([last(*calls, findtime(0, 0, time))[0] for time in (2, 3, 4, 7, 8)], [0, 0, 2, 2, -6])
        self.assertEqual([last(*calls[:4], findtime(0, 0, time))[0] for time in (2, 3, 4, 7, 8)], [0, 0, 2, 2, -6])

    def test_over_gaps(self):
        calls = [books("BOOK a PARTS 1 SEGMENT 2 TIGHT"), put(0, 1, 9), put(0, 2, 1), put(0, 1, 5), put(0, 3, 9)]
        self.assertEqual(run(*calls, findtime(0, 0, 6), tighten(0), findtime(0, 0, 6), findtime(0, 0, 0))[-4:],
                         [[0, 7, 0, 9, 1, 0, 0, 0, 0], [1], [3, 7, 3, 9, 3, 0, 0, 0, 0], [1, 7, 1, 1, 2, 0, 0, 0, 0]])

    def test_refusals_in_order(self):
        for book, part in ((-1, 0), (2, 0), (0, 1), (0, -1), (1, 2), (HUGE, 0), (0, HUGE), (-HUGE, -HUGE)):
            self.assertEqual(last(*MIXED, findtime(book, part, -1)), [-2])
        for time in (-1, -HUGE):
            self.assertEqual(last(*MIXED, findtime(0, 0, time)), [-1])
            self.assertEqual(last(*MIXED, findtime(1, 0, time)), [-1])

    def test_they_change_nothing(self):
        bench = Bench(*MIXED)
        before = bench.state()
        bench.run(find(0, 0, 0), find(0, 0, 99), find(0, 0, -1), findtime(0, 0, 6), findtime(0, 0, 99), findtime(9, 0, 0))
        self.assertEqual(bench.state(), before)


if __name__ == "__main__":
    unittest.main()
