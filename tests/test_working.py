import random
import unittest

from tests.calling import (Bench, begin, books, cut, done, fetch, find, flush, giveup, group, groupat, join, keep, last,
                           leave, map_of, part_at, parted, place, put, read, remove, run, send, sender, senderat, work)

HUGE = 10 ** 18
BOOKS = books("BOOK in PARTS 2 SEGMENT 50/BOOK out PARTS 3 SEGMENT 50/BOOK one PARTS 1 SEGMENT 50")


# Records of these keys in part 0 of book 0, on the disk; member 1 has both parts, in generation 1.
def started(*keys, lines=BOOKS):
    return [lines, sender(2), group(0, 0), join(0, 1)] + [put(0, key, 5, [6]) for key in keys] + [flush(0)]


def work_0(how_many=20, marks=100):
    return work(0, 1, 1, 0, 2, 1, 1, how_many, marks)


# (key, value, number) of what was put out into part 0 of book 1.
def out(bench):
    rows = parted(bench.run(read(1, 0, 0, 20, 0))[0][1:])
    return [(row[2], row[7:], row[4]) for row in rows]


def places_of(bench):
    return parted(bench.run(groupat(0))[0][2:])[2:]


class Work(unittest.TestCase):
    def test_the_example_of_the_document(self):
        told = run(books("BOOK in PARTS 2 SEGMENT 3/BOOK out PARTS 2 SEGMENT 3"), put(0, 4, 1, [7]), read(0, 0), flush(0),
                   read(0, 0), group(0, 0), join(0, 1), sender(2), work_0(), read(1, 0, 0, 20, 0), find(1, 0, 1),
                   groupat(0), work_0(), part_at(1, 0), groupat(0))
        self.assertEqual(told[1:], [
            [0, 0], [0], [1], [1, 8, 0, 1, 4, 0, 0, 0, 1, 7], [2], [1], [1], [1, 1],
            [2, 8, 0, 0, 4, 2, 1, 1, 1, 1], [1, 7, 1, 0, -1, 2, 0, 2, -1],
            [1, 0, 1, 1, 2, 1, 1, 2, 1, 0, 2, 1, 0], [0, 1], [0, 0, 2, 2, 2, 2, 0], [1, 0, 1, 1, 2, 1, 1, 2, 1, 0, 2, 1, 0],
        ])

    def test_what_it_makes(self):
        bench = Bench(*started(4, 4, 2, 4, 0, 2))
        self.assertEqual(bench.run(work_0()), [[6, 6]])
        self.assertEqual(out(bench), [(4, [1], 1), (4, [2], 2), (2, [1], 3), (4, [3], 4), (0, [1], 5), (2, [2], 6)])

    def test_bit_by_bit(self):
        bench = Bench(*started(4, 4, 2, 4, 0, 2))
        told = bench.run(work_0(1), work_0(3), work_0(2), work_0(1))
        self.assertEqual(told, [[1, 1], [3, 4], [2, 6], [0, 6]])
        self.assertEqual(out(bench), [(4, [1], 1), (4, [2], 2), (2, [1], 3), (4, [3], 4), (0, [1], 5), (2, [2], 6)])
        self.assertEqual([record[:2] for record in bench.records(1, 0)],
                         [(0, 1), (1, 2), (2, 1), (3, 1), (4, 1), (5, 2), (6, 1), (7, 1), (8, 2)])

    def test_time_0(self):
        self.assertEqual(last(*started(8), work_0(), find(1, 0, 0)), [0, 8, 0, 0, 8, 2, 1, 1, 1, 1])

    def test_records_without_a_key_make_nothing(self):
        bench = Bench(*started(), put(0, -1), put(0, 1), put(0, -1), put(0, 4), flush(0))
        self.assertEqual(bench.run(work_0(1), work_0(1), work_0(1)), [[0, 1], [0, 2], [1, 3]])
        self.assertEqual(out(bench), [(4, [1], 1)])

    def test_keys_taken_away_count(self):
        bench = Bench(*started(4), remove(0, 4), put(0, 4), flush(0))
        self.assertEqual(bench.run(work_0()), [[3, 3]])
        self.assertEqual(out(bench), [(4, [1], 1), (4, [2], 2), (4, [3], 3)])

    def test_the_part_of_the_same_place(self):
        bench = Bench(*started(), put(0, 5), put(0, 3), flush(0))
        self.assertEqual(bench.run(work(0, 1, 1, 1, 2, 1, 1), map_of(1)), [[2, 2], [2, 2, 3, 1, 2, 5, 1]])
        self.assertEqual([len(bench.records(1, part)) for part in range(3)], [0, 3, 0])

    def test_only_what_is_seen(self):
        bench = Bench(*started(4), sender(3), begin(3, 1), send(3, 1, 1, 0, 4), put(0, 4), flush(0))
        self.assertEqual(bench.run(work_0()), [[1, 1]])
        bench.run(giveup(3, 1))
        self.assertEqual(bench.run(work_0(1), work_0(1)), [[1, 3], [0, 4]])
        self.assertEqual(out(bench), [(4, [1], 1), (4, [2], 2)])

    def test_what_is_not_on_the_disk(self):
        bench = Bench(*started(4), put(0, 4))
        self.assertEqual(bench.run(work_0(), work_0(), flush(0), work_0()), [[1, 1], [0, 1], [1], [1, 2]])

    def test_nothing_to_put_out(self):
        bench = Bench(*started())
        self.assertEqual(bench.run(work_0(), work_0(20, 0), work_0(20, -2), work_0(20, -1)), [[0, 0]] * 4)
        self.assertEqual(bench.records(1, 0), [])

    def test_a_kept_place_above_where_it_is_stable(self):
        bench = Bench(*started(4), sender(3), begin(3, 1), send(3, 1, 1, 0, 4), put(0, 4), flush(0), fetch(0, 1, 1, 0, 20, 0),
                      keep(0, 1, 1, 0, 3))
        self.assertEqual(bench.run(work_0()), [[0, 3]])

    def test_from_the_kept_place_not_from_the_one_read_up_to(self):
        bench = Bench(*started(4, 4, 4, 4), fetch(0, 1, 1, 0, 3), keep(0, 1, 1, 0, 1))
        self.assertEqual(bench.run(work_0(2)), [[2, 3]])
        self.assertEqual(out(bench), [(4, [2], 1), (4, [3], 2)])
        self.assertEqual(places_of(bench), [[3, 0], [3, 0]])

    def test_the_place_read_up_to_may_go_back(self):
        bench = Bench(*started(4, 4, 4, 4), fetch(0, 1, 1, 0, 4))
        bench.run(work_0(1))
        self.assertEqual(places_of(bench), [[1, 0], [1, 0]])

    def test_no_transaction_is_left(self):
        for marks in (-2, -1, 0, 1, 100):
            self.assertEqual(last(*started(4), work_0(20, marks), senderat(2)), [1, 0])

    def test_a_sender_that_sent_there_before(self):
        bench = Bench(*started(4, 4), send(2, 1, 1, 1, 0), send(2, 1, 2, 1, 0), send(2, 1, 1, 1, 1))
        self.assertEqual(bench.run(work_0(), send(2, 1, 4, 1, 0), send(2, 1, 6, 1, 0), send(2, 1, 5, 1, 0)),
                         [[2, 2], [0, 3, 1], [-6], [0, 5, 0]])
        self.assertEqual(out(bench), [(0, [], 1), (0, [], 2), (4, [1], 3), (4, [2], 4), (0, [], 5)])

    def test_another_sender_goes_on(self):
        bench = Bench(*started(4, 4), sender(5))
        self.assertEqual(bench.run(work_0(1), work(0, 1, 1, 0, 5, 1, 1)), [[1, 1], [1, 2]])
        self.assertEqual(out(bench), [(4, [1], 1), (4, [2], 1)])

    def test_another_member_goes_on(self):
        bench = Bench(*started(4, 4))
        told = bench.run(work_0(1), join(0, 0), leave(0, 1), work(0, 0, 3, 0, 2, 1, 1))
        self.assertEqual(told, [[1, 1], [2], [3], [1, 2]])
        self.assertEqual(out(bench), [(4, [1], 1), (4, [2], 2)])

    def test_each_group_by_itself(self):
        told = run(*started(4, 4), group(3, 0), join(3, 0), work_0(), work(3, 0, 1, 0, 2, 1, 1), groupat(3))
        self.assertEqual(told[-3:], [[2, 2], [2, 2], [1, 0, 1, 0, 2, 0, 0, 2, 2, 0, 2, 2, 0]])


class SegmentsThatWent(unittest.TestCase):
    def test_all_of_before_went(self):
        bench = Bench(*started(4, 4, lines=books("BOOK in PARTS 1 SEGMENT 2 KEEP 2/BOOK out PARTS 1 SEGMENT 50")))
        self.assertEqual(bench.run(work_0(), put(0, 4), put(0, 4), work_0()), [[2, 2], [0, 2], [0, 3], [2, 4]])
        self.assertEqual(out(bench), [(4, [1], 1), (4, [2], 2), (4, [1], 3), (4, [2], 4)])

    def test_some_of_before_went(self):
        lines = books("BOOK in PARTS 1 SEGMENT 2 KEEP 3/BOOK out PARTS 1 SEGMENT 50")
        bench = Bench(*started(4, 4, 4, 4, lines=lines))
        told = bench.run(work_0(3), put(0, 4), put(0, 4), part_at(0, 0), work_0())
        self.assertEqual(told, [[3, 3], [0, 4], [0, 5], [2, 6, 6, 6, 6, 4, 6, 2, 4, 2, 4, 6, 2], [3, 6]])
        self.assertEqual(out(bench), [(4, [1], 1), (4, [2], 2), (4, [3], 3), (4, [2], 4), (4, [3], 5), (4, [4], 6)])

    def test_what_was_not_worked_on_went(self):
        bench = Bench(*started(4, 4, 4, 4, 4, lines=books("BOOK in PARTS 1 SEGMENT 2 KEEP 0/BOOK out PARTS 1 SEGMENT 50")))
        self.assertEqual(bench.run(work_0()), [[1, 5]])
        self.assertEqual(out(bench), [(4, [1], 1)])

    def test_what_is_put_out_may_go(self):
        bench = Bench(*started(4, 4, 4, lines=books("BOOK in PARTS 1 SEGMENT 50/BOOK out PARTS 1 SEGMENT 2 KEEP 0")))
        self.assertEqual(bench.run(work_0(), part_at(1, 0), send(2, 1, 3, 1, 0)), [[3, 3], [4, 4, 4, 4, 4, 0, 0], [0, 2, 1]])


class WorkWithJ(unittest.TestCase):
    def test_power_is_lost_before_the_mark(self):
        bench = Bench(*started(4), put(0, 4), put(2, 1), fetch(0, 1, 1, 1, 1, 0))
        self.assertEqual(bench.run(work_0(20, 0), cut()), [[1, 1], [0]])
        self.assertEqual(bench.records(1, 0), [(0, 1, 2, 1), (1, 2, 2, 0)])
        self.assertEqual((len(bench.records(0, 0)), bench.records(2, 0)), (1, []))
        self.assertEqual(places_of(bench), [[1, 0], [1, 0]])
        self.assertEqual(bench.run(work_0()), [[0, 1]])

    def test_no_power_is_lost_with_as_many_marks_as_parts(self):
        for marks in (1, 2, 100):
            bench = Bench(*started(4), put(0, 4), put(2, 1))
            self.assertEqual(bench.run(work_0(20, marks), cut()), [[1, 1], [2]])
            self.assertEqual(bench.records(1, 0), [(0, 1, 2, 1), (1, 2, 2, 0)])

    def test_no_power_is_lost_with_nothing_to_put_out(self):
        self.assertEqual(run(*started(), put(2, 1), work_0(20, 0), cut())[-2:], [[0, 0], [1]])

    def test_others_lose_with_power(self):
        bench = Bench(*started(4, 4), sender(3), begin(3, 1), send(3, 1, 1, 2, 0), flush(2), group(1, 2), join(1, 0),
                      fetch(1, 0, 1, 0, 5, 0))
        bench.run(work_0(1, 0))
        self.assertEqual(bench.run(senderat(3), groupat(1)), [[1, 0], [1, 2, 1, 0, 1, 0, 1, 0, 1, 0]])
        self.assertEqual(bench.records(2, 0), [(0, 1, 3, 1), (1, 3, 3, 0)])

    def test_minus_1_loses_power(self):
        bench = Bench(*started(4, 4), put(2, 1), fetch(0, 1, 1, 0, 1))
        self.assertEqual(bench.run(work_0(20, -1), cut()), [[2, 2], [0]])
        self.assertEqual(bench.records(1, 0), [(0, 3, 2, 0)])
        self.assertEqual(bench.records(2, 0), [])
        self.assertEqual(places_of(bench), [[0, 0], [0, 0]])
        self.assertEqual(bench.run(work_0()), [[2, 2]])
        self.assertEqual(out(bench), [(4, [1], 1), (4, [2], 2)])
        self.assertEqual(places_of(bench), [[2, 0], [2, 0]])

    def test_minus_1_leaves_what_is_on_the_disk(self):
        bench = Bench(*started(4, 4, 4, lines=books("BOOK in PARTS 1 SEGMENT 50/BOOK out PARTS 1 SEGMENT 2")))
        self.assertEqual(bench.run(work_0(20, -1)), [[3, 3]])
        self.assertEqual(bench.records(1, 0), [(0, 1, 2, 1), (1, 1, 2, 2), (2, 3, 2, 0)])
        self.assertEqual(bench.run(work_0(), map_of(1)), [[3, 3], [1, 2, 4, 3]])
        self.assertEqual(out(bench), [(4, [1], 1), (4, [2], 2), (4, [1], 3), (4, [2], 4), (4, [3], 5)])

    def test_minus_2_gives_up(self):
        bench = Bench(*started(4, 4), put(2, 1), fetch(0, 1, 1, 0, 1))
        self.assertEqual(bench.run(work_0(20, -2)), [[2, 2]])
        self.assertEqual(bench.records(1, 0), [(0, 1, 2, 1), (1, 1, 2, 2), (2, 3, 2, 0)])
        self.assertEqual(places_of(bench), [[0, 0], [1, 0]])
        self.assertEqual(bench.run(cut(), read(1, 0), work_0(), read(1, 0)),
                         [[1], [3], [2, 2], [6, 8, 3, 0, 4, 2, 3, 1, 1, 1, 8, 4, 0, 4, 2, 4, 1, 1, 2]])

    def test_minus_2_loses_no_power(self):
        bench = Bench(*started(4), put(0, 4), put(2, 1))
        self.assertEqual(bench.run(work_0(20, -2), cut()), [[1, 1], [2]])


class RefusedWork(unittest.TestCase):
    def bench(self):
        return Bench(*started(4), group(1, 2), join(1, 1), group(2, 1), join(2, 1), sender(3), begin(3, 1))

    def test_refusals_in_order(self):
        told = self.bench().run(
            work(3, 9, 9, 9, 9, 9, 9, 0, -3), work(0, 9, 9, 9, 9, 9, 9, 0, -3), work(0, 9, 1, 0, 9, 9, 9, 0, -3),
            work(0, 1, 1, 2, 9, 9, 9, 0, -3), work(0, 1, 1, 0, 9, 9, 9, 0, -3), work(0, 1, 1, 0, 3, 9, 9, 0, -3),
            work(0, 1, 1, 0, 3, 1, 9, 0, -3), work(0, 1, 1, 0, 3, 1, 0, 0, -3), work(0, 1, 1, 1, 3, 1, 2, 0, -3),
            work(0, 1, 1, 0, 3, 1, 1, 0, 0), work(0, 1, 1, 0, 3, 1, 1, 1, -3), work(0, 1, 1, 0, 3, 1, 1, 1, 0))
        self.assertEqual(told, [[-4], [-8], [-9], [-9], [-5], [-8], [-2], [-2], [-2], [-1], [-1], [-7]])

    def test_a_refusal_changes_nothing(self):
        bench = self.bench()
        before = bench.state()
        bench.run(work(3, 1, 1, 0, 2, 1, 1), work(0, 1, 0, 0, 2, 1, 1), work(0, 0, 1, 0, 2, 1, 1), work(0, 1, 1, 2, 2, 1, 1),
                  work(0, 1, 1, 0, 4, 1, 1), work(0, 1, 1, 0, 2, 2, 1), work(0, 1, 1, 0, 2, 1, 3), work(0, 1, 1, 0, 2, 1, 0),
                  work(0, 1, 1, 1, 2, 1, 2), work_0(0), work_0(21), work_0(1, -3), work_0(1, 101), work(0, 1, 1, 0, 3, 1, 1))
        self.assertEqual(bench.state(), before)

    def test_books(self):
        for book in (-1, 0, 3, HUGE, -HUGE):
            self.assertEqual(self.bench().run(work(0, 1, 1, 0, 2, 1, book)), [[-2]])
        # Book 2 has no part 1; the group of a book with 3 parts has none in a book with 2.
        self.assertEqual(self.bench().run(work(0, 1, 1, 0, 2, 1, 2), work(0, 1, 1, 1, 2, 1, 2), work(2, 1, 1, 1, 2, 1, 0),
                                          work(2, 1, 1, 2, 2, 1, 0)), [[1, 1], [-2], [0, 0], [-2]])

    def test_ranges(self):
        for how_many in (1, 20):
            self.assertEqual(self.bench().run(work_0(how_many)), [[1, 1]])
        for how_many in (0, -1, 21, HUGE, -HUGE):
            self.assertEqual(self.bench().run(work_0(how_many)), [[-1]])
        for marks in (-2, -1, 0, 1, 100):
            self.assertEqual(self.bench().run(work_0(1, marks)), [[1, 1]])
        for marks in (-3, 101, HUGE, -HUGE):
            self.assertEqual(self.bench().run(work_0(1, marks)), [[-1]])

    def test_a_transaction_with_a_place_of_before(self):
        # A place told ahead of the work is no more than the kept one when the transaction is done.
        bench = Bench(*started(4, 4), sender(3), fetch(0, 1, 1, 0, 1), begin(3, 1), place(3, 1, 0, 1, 1, 0, 1))
        self.assertEqual(bench.run(work_0(), done(3, 1, 0)), [[2, 2], [0, 1]])
        self.assertEqual(places_of(bench), [[2, 0], [2, 0]])


class EachRecordOnce(unittest.TestCase):
    # Whoever stops, is thrown out or loses power in between.
    def test_each_record_is_worked_on_once(self):
        chance = random.Random(11)
        for turn in range(60):
            bench = Bench(books(f"BOOK in PARTS 2 SEGMENT {chance.choice([2, 5, 50])}/"
                                f"BOOK out PARTS 2 SEGMENT {chance.choice([1, 2, 3, 50])}"), sender(2), group(0, 0))
            self.disturb(bench, chance)
            for part in (0, 1):
                self.check_part(bench, part)

    def disturb(self, bench, chance):
        found = bench.store.groups[0]
        for step in range(60):
            bench.run(chance.choice([put(0, chance.randrange(6)), put(0, chance.randrange(6)), flush(0), cut(), sender(2),
                                     join(0, chance.randrange(3)), leave(0, chance.randrange(3))]))
            part = chance.randrange(2)
            member = -1 if found.owners[part] is None else found.owners[part]
            bench.run(work(0, member, found.generation, part, 2, bench.store.senders[2].epoch, 1, chance.choice([1, 2, 20]),
                           chance.choice([-2, -1, 0, 1])))
        bench.run(flush(0), leave(0, 0), leave(0, 1), leave(0, 2), join(0, 0))
        for part in (0, 1):
            for again in range(20):
                bench.run(work(0, 0, found.generation, part, 2, bench.store.senders[2].epoch, 1))

    def all_seen(self, bench, book, part):
        rows = []
        goes_on = -1
        while goes_on != bench.part(book, part).next_place:
            told = bench.run(read(book, part, max(goes_on, 0)))[0]
            goes_on = told[0]
            rows.extend(parted(told[1:]))
        return rows

    def check_part(self, bench, part):
        count = {}
        expected = []
        for row in self.all_seen(bench, 0, part):
            count[row[2]] = count.get(row[2], 0) + 1
            expected.append([row[2], 1, count[row[2]]])
        self.assertEqual([[row[2]] + row[6:] for row in self.all_seen(bench, 1, part)], expected)


if __name__ == "__main__":
    unittest.main()
