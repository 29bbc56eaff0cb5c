import unittest

from recordbooks.seen import counts, decisions, seen_records, stable_up_to
from tests.calling import Bench, begin, books, done, flush, giveup, put, send, sender

ONE = books("BOOK a PARTS 1 SEGMENT 50")


def bench_of(*calls):
    return Bench(ONE, sender(1), sender(2), *calls)


def seen(bench):
    return [record.place for record in seen_records(bench.part(0, 0))]


def counting(bench):
    records = bench.part(0, 0).records_there()
    return [record.place for record in records if counts(record, decisions(records))]


class Seen(unittest.TestCase):
    def test_only_what_is_on_the_disk(self):
        bench = bench_of(put(0, 1))
        self.assertEqual((stable_up_to(bench.part(0, 0)), seen(bench)), (0, []))
        bench.run(flush(0), put(0, 1))
        self.assertEqual((stable_up_to(bench.part(0, 0)), seen(bench), counting(bench)), (1, [0], [0, 1]))

    def test_up_to_the_first_that_is_not_decided(self):
        bench = bench_of(put(0, 1), begin(1, 1), send(1, 1, 1, 0, 1), put(0, 1), flush(0))
        self.assertEqual((stable_up_to(bench.part(0, 0)), seen(bench), counting(bench)), (1, [0], [0, 2]))

    def test_not_decided_and_not_on_the_disk(self):
        bench = bench_of(put(0, 1), flush(0), put(0, 1), begin(1, 1), send(1, 1, 1, 0, 1))
        self.assertEqual(stable_up_to(bench.part(0, 0)), 1)

    def test_done(self):
        bench = bench_of(begin(1, 1), send(1, 1, 1, 0, 1), put(0, 1), send(1, 1, 2, 0, 1), done(1, 1))
        self.assertEqual((stable_up_to(bench.part(0, 0)), seen(bench)), (4, [0, 1, 2]))

    def test_given_up(self):
        bench = bench_of(begin(1, 1), send(1, 1, 1, 0, 1), put(0, 1), giveup(1, 1))
        self.assertEqual((stable_up_to(bench.part(0, 0)), seen(bench)), (3, [1]))

    def test_the_first_mark_behind_decides(self):
        bench = bench_of(begin(1, 1), send(1, 1, 1, 0, 1), giveup(1, 1), begin(1, 1), send(1, 1, 2, 0, 1), done(1, 1),
                         begin(1, 1), send(1, 1, 3, 0, 1), flush(0))
        self.assertEqual((stable_up_to(bench.part(0, 0)), seen(bench)), (4, [2]))
        self.assertEqual(decisions(bench.part(0, 0).records_there()), {0: 3, 2: 2})

    def test_only_kind_1_is_decided(self):
        bench = bench_of(send(1, 1, 1, 0, 1), begin(1, 1), send(1, 1, 2, 0, 1), giveup(1, 1))
        self.assertEqual(decisions(bench.part(0, 0).records_there()), {1: 3})
        self.assertEqual(seen(bench), [0])

    def test_only_marks_of_its_sender_decide(self):
        bench = bench_of(begin(1, 1), begin(2, 1), send(1, 1, 1, 0, 1), send(2, 1, 1, 0, 1), done(2, 1))
        self.assertEqual((stable_up_to(bench.part(0, 0)), seen(bench), counting(bench)), (0, [], [1]))
        bench.run(giveup(1, 1))
        self.assertEqual((stable_up_to(bench.part(0, 0)), seen(bench)), (4, [1]))

    def test_full_segments_and_the_open_one(self):
        bench = Bench(books("BOOK a PARTS 1 SEGMENT 2"), sender(1), begin(1, 1), send(1, 1, 1, 0, 1),
                      send(1, 1, 2, 0, 1), send(1, 1, 3, 0, 1), done(1, 1), put(0, 1))
        self.assertEqual((stable_up_to(bench.part(0, 0)), seen(bench)), (4, [0, 1, 2]))


if __name__ == "__main__":
    unittest.main()
