import unittest

from tests.calling import Bench, begin, books, cut, done, flush, giveup, last, put, run, send, sender

BILLION = 1000000000
BOOKS = books("BOOK a PARTS 2 SEGMENT 50/BOOK b PARTS 1 SEGMENT 2 KEEP 0")


class SenderCall(unittest.TestCase):
    def test_epochs(self):
        self.assertEqual(run(sender(1), sender(8), sender(1), sender(1), sender(8)), [[1], [1], [2], [3], [2]])

    def test_range(self):
        self.assertEqual(run(sender(0), sender(9), sender(-1), sender(10 ** 18), sender(1)), [[-1]] * 4 + [[1]])
        self.assertEqual(last(sender(0), begin(0, 1)), [-5])

    def test_a_refused_one_does_not_come(self):
        bench = Bench(sender(0), sender(9))
        self.assertEqual(list(bench.store.senders), [])

    def test_an_open_transaction_is_given_up(self):
        bench = Bench(BOOKS, sender(3), begin(3, 1), send(3, 1, 1, 0, 1), send(3, 1, 1, 0, 0))
        self.assertEqual(bench.run(sender(3), giveup(3, 2), cut()), [[2], [-7], [0]])
        self.assertEqual(bench.records(0, 0), [(0, 1, 3, 1), (1, 3, 3, 0)])
        self.assertEqual(bench.records(0, 1), [(0, 1, 3, 1), (1, 3, 3, 0)])

    def test_without_a_transaction_nothing_is_marked(self):
        bench = Bench(BOOKS, sender(3), send(3, 1, 1, 0, 0), sender(3))
        self.assertEqual(bench.records(0, 0), [(0, 0, 3, 1)])
        self.assertEqual(bench.run(cut()), [[1]])

    def test_numbers_told_stay_with_a_new_epoch(self):
        told = run(BOOKS, sender(1), send(1, 1, 1, 0, 0), sender(1), send(1, 2, 1, 0, 0), send(1, 2, 2, 0, 0))
        self.assertEqual(told[3:], [[2], [0, 0, 1], [0, 1, 0]])


class Send(unittest.TestCase):
    def test_put_in(self):
        told = run(BOOKS, sender(1), put(0, 1), send(1, 1, 1, 0, 1, 5, [6]), send(1, 1, 2, 0, 1), send(1, 1, 1, 0, 2))
        self.assertEqual(told[3:], [[1, 1, 0], [1, 2, 0], [0, 0, 0]])

    def test_the_record(self):
        bench = Bench(BOOKS, sender(7), send(7, 1, 1, 0, 98, BILLION, [1, 2]))
        record = bench.part(0, 0).records_there()[0]
        found = (record.place, record.time, record.key, record.value, record.sender, record.number, record.kind)
        self.assertEqual(found, (0, BILLION, 98, [1, 2], 7, 1, 0))

    def test_told_before(self):
        told = run(BOOKS, sender(1), put(0, 0), send(1, 1, 1, 0, 0, 1, [1]), put(0, 0), send(1, 1, 2, 0, 0),
                   send(1, 1, 1, 0, 4, 2, [9]), send(1, 1, 2, 0, 2), put(0, 0))
        self.assertEqual(told[6:], [[0, 1, 1], [0, 3, 1], [0, 4]])

    def test_nothing_is_put_in_again(self):
        bench = Bench(BOOKS, sender(1), send(1, 1, 1, 0, 0))
        before = bench.state()
        bench.run(send(1, 1, 1, 0, 0))
        self.assertEqual(bench.state(), before)

    def test_each_part_has_numbers_of_its_own(self):
        told = run(BOOKS, sender(1), send(1, 1, 1, 0, 0), send(1, 1, 2, 0, 0), send(1, 1, 2, 0, 1), send(1, 1, 1, 0, 1),
                   send(1, 1, 3, 1, 1), send(1, 1, 1, 1, 1))
        self.assertEqual(told[2:], [[0, 0, 0], [0, 1, 0], [-6], [1, 0, 0], [-6], [0, 0, 0]])

    def test_each_sender_has_numbers_of_its_own(self):
        told = run(BOOKS, sender(1), sender(2), send(1, 1, 1, 0, 0), send(2, 1, 2, 0, 0), send(2, 1, 1, 0, 0))
        self.assertEqual(told[3:], [[0, 0, 0], [-6], [0, 1, 0]])

    def test_told_though_the_record_has_gone(self):
        bench = Bench(BOOKS, sender(1), send(1, 1, 1, 1, 0), send(1, 1, 2, 1, 0), send(1, 1, 3, 1, 0))
        self.assertEqual([record[0] for record in bench.records(1, 0)], [2])
        self.assertEqual(bench.run(send(1, 1, 1, 1, 0), send(1, 1, 2, 1, 0), send(1, 1, 3, 1, 0), send(1, 1, 4, 1, 0)),
                         [[0, 0, 1], [0, 1, 1], [0, 2, 1], [0, 3, 0]])

    def test_told_though_the_record_has_gone_and_power_was_lost(self):
        told = run(BOOKS, sender(1), send(1, 1, 1, 1, 0), send(1, 1, 2, 1, 0), send(1, 1, 3, 1, 0), cut(),
                   send(1, 1, 1, 1, 0), send(1, 1, 2, 1, 0), send(1, 1, 4, 1, 0), send(1, 1, 3, 1, 0))
        self.assertEqual(told[5:], [[1], [0, 0, 1], [0, 1, 1], [-6], [0, 2, 0]])

    def test_numbers_lost_with_power(self):
        told = run(BOOKS, sender(1), send(1, 1, 1, 0, 0), flush(0), put(0, 0), send(1, 1, 2, 0, 0), cut(),
                   send(1, 1, 3, 0, 0), send(1, 1, 1, 0, 0), send(1, 1, 2, 0, 0), send(1, 1, 2, 0, 0))
        self.assertEqual(told[6:], [[2], [-6], [0, 0, 1], [0, 1, 0], [0, 1, 1]])

    def test_power_takes_numbers_part_by_part(self):
        told = run(BOOKS, sender(1), send(1, 1, 1, 0, 0), flush(0), send(1, 1, 1, 0, 1), cut(), send(1, 1, 1, 0, 0),
                   send(1, 1, 1, 0, 1), send(1, 1, 1, 0, 1))
        self.assertEqual(told[5:], [[1], [0, 0, 1], [1, 0, 0], [1, 0, 1]])

    def test_numbers_of_records_given_up_stay_told(self):
        told = run(BOOKS, sender(1), begin(1, 1), send(1, 1, 1, 0, 0), giveup(1, 1), send(1, 1, 1, 0, 0),
                   send(1, 1, 2, 0, 0))
        self.assertEqual(told[4:], [[1], [0, 0, 1], [0, 2, 0]])

    def test_marks_are_no_numbers_told(self):
        told = run(BOOKS, sender(1), begin(1, 1), send(1, 1, 1, 0, 0), done(1, 1), send(1, 1, 3, 0, 0),
                   send(1, 1, 2, 0, 0))
        self.assertEqual(told[4:], [[1, 0], [-6], [0, 2, 0]])

    def test_a_number_too_far(self):
        self.assertEqual(last(BOOKS, sender(1), send(1, 1, 2, 0, 0)), [-6])
        self.assertEqual(last(BOOKS, sender(1), send(1, 1, 1000000, 0, 0)), [-6])
        told = run(BOOKS, sender(1), send(1, 1, 1, 0, 0), send(1, 1, 3, 0, 0), send(1, 1, 2, 0, 0))
        self.assertEqual(told[2:], [[0, 0, 0], [-6], [0, 1, 0]])

    def test_ranges(self):
        for number in (0, -1, 1000001, 10 ** 18):
            self.assertEqual(last(BOOKS, sender(1), send(1, 1, number, 0, 0)), [-1])
        for key in (-1, -2, 100):
            self.assertEqual(last(BOOKS, sender(1), send(1, 1, 1, 0, key)), [-1])
        for key in (0, 99):
            self.assertEqual(last(BOOKS, sender(1), send(1, 1, 1, 0, key)), [key % 2, 0, 0])
        for time in (-1, BILLION + 1):
            self.assertEqual(last(BOOKS, sender(1), send(1, 1, 1, 0, 0, time)), [-1])
        for time in (0, BILLION):
            self.assertEqual(last(BOOKS, sender(1), send(1, 1, 1, 0, 0, time)), [0, 0, 0])
        for value in ([0] * 6, [BILLION + 1], [-BILLION - 1]):
            self.assertEqual(last(BOOKS, sender(1), send(1, 1, 1, 0, 0, 0, value)), [-1])
        for value in ([0] * 5, [BILLION], [-BILLION]):
            self.assertEqual(last(BOOKS, sender(1), send(1, 1, 1, 0, 0, 0, value)), [0, 0, 0])

    def test_no_such_sender(self):
        for number in (0, 2, 9, -1, 10 ** 18):
            self.assertEqual(last(BOOKS, sender(1), send(number, 1, 1, 0, 0)), [-5])

    def test_epochs(self):
        self.assertEqual(last(BOOKS, sender(1), send(1, 0, 1, 0, 0)), [-8])
        self.assertEqual(last(BOOKS, sender(1), send(1, 2, 1, 0, 0)), [-8])
        self.assertEqual(last(BOOKS, sender(1), sender(1), send(1, 1, 1, 0, 0)), [-8])
        self.assertEqual(last(BOOKS, sender(1), sender(1), send(1, 2, 1, 0, 0)), [0, 0, 0])

    def test_no_such_book(self):
        for book in (-1, 2, 10 ** 18):
            self.assertEqual(last(BOOKS, sender(1), send(1, 1, 1, book, 0)), [-2])

    def test_the_order_of_refusals(self):
        told = run(BOOKS, sender(1), send(2, 9, 0, 9, -1), send(1, 9, 0, 9, -1), send(1, 1, 0, 9, -1),
                   send(1, 1, 0, 0, 0), send(1, 1, 5, 0, 100), send(1, 1, 5, 0, 0))
        self.assertEqual(told[2:], [[-5], [-8], [-2], [-1], [-1], [-6]])

    def test_the_range_counts_before_told_before(self):
        told = run(BOOKS, sender(1), send(1, 1, 1, 0, 0), send(1, 1, 1, 0, 0, -1), send(1, 1, 1, 0, 0, 0, [0] * 6))
        self.assertEqual(told[3:], [[-1], [-1]])

    def test_a_refusal_changes_nothing(self):
        bench = Bench(BOOKS, sender(1), begin(1, 1), send(1, 1, 1, 0, 1))
        before = bench.state()
        bench.run(send(2, 1, 1, 0, 0), send(1, 2, 1, 0, 0), send(1, 1, 1, 5, 0), send(1, 1, 1, 0, 100),
                  send(1, 1, 2, 0, 0), sender(9), begin(1, 1), done(1, 1, 101), done(1, 1, -1), giveup(1, 2))
        self.assertEqual(bench.state(), before)


if __name__ == "__main__":
    unittest.main()
