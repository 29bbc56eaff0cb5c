import unittest

from tests.calling import Bench, begin, books, cut, done, flush, giveup, group, last, put, run, send, sender

BOOKS = books("BOOK a PARTS 2 SEGMENT 50/BOOK b PARTS 2 SEGMENT 50")


def opened(*calls):
    return Bench(BOOKS, sender(1), begin(1, 1), *calls)


# Part 1 of book 0, part 0 of book 1, part 0 of book 0: in this order.
def three_parts():
    return opened(send(1, 1, 1, 0, 1), send(1, 1, 1, 1, 0), send(1, 1, 2, 0, 1), send(1, 1, 1, 0, 0))


class Begin(unittest.TestCase):
    def test_opens(self):
        self.assertEqual(run(BOOKS, sender(1), begin(1, 1), begin(1, 1), giveup(1, 1), begin(1, 1))[2:],
                         [[0], [-7], [0], [0]])

    def test_each_sender_has_its_own(self):
        self.assertEqual(run(BOOKS, sender(1), sender(2), begin(1, 1), begin(2, 1), giveup(1, 1), begin(2, 1))[3:],
                         [[0], [0], [0], [-7]])

    def test_refusals_in_order(self):
        told = run(sender(1), begin(2, 1), begin(0, 1), begin(1, 2), begin(1, 0), begin(1, 1), begin(1, 2), begin(1, 1))
        self.assertEqual(told[1:], [[-5], [-5], [-8], [-8], [0], [-8], [-7]])


class Within(unittest.TestCase):
    def test_kinds(self):
        bench = Bench(BOOKS, sender(1), send(1, 1, 1, 0, 0), begin(1, 1), send(1, 1, 2, 0, 0), put(0, 0), done(1, 1),
                      send(1, 1, 3, 0, 0))
        self.assertEqual(bench.records(0, 0), [(0, 0, 1, 1), (1, 1, 1, 2), (2, 0, 0, 0), (3, 2, 1, 0), (4, 0, 1, 3)])

    def test_only_of_the_sender_itself(self):
        bench = Bench(BOOKS, sender(1), sender(2), begin(1, 1), send(2, 1, 1, 0, 0), send(1, 1, 1, 0, 0))
        self.assertEqual(bench.records(0, 0), [(0, 0, 2, 1), (1, 1, 1, 1)])

    def test_parts_count_once(self):
        self.assertEqual(three_parts().run(giveup(1, 1)), [[3]])
        self.assertEqual(three_parts().run(done(1, 1)), [[3, 0]])

    def test_a_number_told_before_brings_no_part(self):
        told = run(BOOKS, sender(1), send(1, 1, 1, 0, 0), begin(1, 1), send(1, 1, 1, 0, 0), done(1, 1), put(0, 0))
        self.assertEqual(told[4:], [[0, 0, 1], [0, 0], [0, 1]])

    def test_a_refused_one_brings_no_part(self):
        self.assertEqual(last(BOOKS, sender(1), begin(1, 1), send(1, 1, 2, 0, 0), done(1, 1)), [0, 0])


class GiveUp(unittest.TestCase):
    def test_marks(self):
        bench = three_parts()
        bench.run(giveup(1, 1))
        self.assertEqual(bench.records(0, 1), [(0, 1, 1, 1), (1, 1, 1, 2), (2, 3, 1, 0)])
        self.assertEqual(bench.records(1, 0), [(0, 1, 1, 1), (1, 3, 1, 0)])
        self.assertEqual(bench.records(0, 0), [(0, 1, 1, 1), (1, 3, 1, 0)])
        self.assertEqual(bench.records(1, 1), [])

    def test_a_mark_as_a_record(self):
        bench = opened(send(1, 1, 1, 0, 0, 5, [6]), giveup(1, 1))
        mark = bench.part(0, 0).records_there()[1]
        self.assertEqual((mark.time, mark.key, mark.value, mark.sender, mark.number), (0, -1, None, 1, 0))

    def test_marks_are_flushed(self):
        bench = opened(send(1, 1, 1, 0, 0), put(0, 0), put(0, 1))
        self.assertEqual(bench.run(giveup(1, 1), cut(), put(0, 0), put(0, 1)), [[1], [1], [0, 3], [1, 0]])

    def test_without_parts(self):
        self.assertEqual(run(BOOKS, sender(1), begin(1, 1), giveup(1, 1), put(0, 0), giveup(1, 1))[3:],
                         [[0], [0, 0], [-7]])

    def test_refusals_in_order(self):
        told = run(BOOKS, sender(1), giveup(2, 9), giveup(1, 9), giveup(1, 1), begin(1, 1), giveup(1, 0))
        self.assertEqual(told[2:], [[-5], [-8], [-7], [0], [-8]])

    def test_a_mark_may_fill_a_segment(self):
        bench = Bench(books("BOOK a PARTS 1 SEGMENT 2 KEEP 0"), sender(1), begin(1, 1), send(1, 1, 1, 0, 0), giveup(1, 1))
        self.assertEqual(bench.records(0, 0), [])
        self.assertEqual(bench.part(0, 0).begins_at(), 2)
        self.assertEqual(bench.run(put(0, 0), send(1, 1, 1, 0, 0)), [[0, 2], [0, 0, 1]])


class Done(unittest.TestCase):
    def test_marks(self):
        bench = three_parts()
        self.assertEqual(bench.run(put(1, 1), done(1, 1, 3), giveup(1, 1), cut()), [[1, 0], [3, 0], [-7], [1]])
        self.assertEqual(bench.records(0, 1), [(0, 1, 1, 1), (1, 1, 1, 2), (2, 2, 1, 0)])
        self.assertEqual(bench.records(1, 0), [(0, 1, 1, 1), (1, 2, 1, 0)])
        self.assertEqual(bench.records(0, 0), [(0, 1, 1, 1), (1, 2, 1, 0)])

    def test_a_mark_as_a_record(self):
        bench = opened(send(1, 1, 1, 0, 0, 5, [6]), done(1, 1))
        mark = bench.part(0, 0).records_there()[1]
        self.assertEqual((mark.time, mark.key, mark.value, mark.sender, mark.number), (0, -1, None, 1, 0))

    def test_without_parts(self):
        # 0 parts are not more than 0: no power is lost.
        self.assertEqual(run(BOOKS, sender(1), begin(1, 1), put(0, 0), done(1, 1, 0), cut())[4:], [[0, 0], [1]])

    def test_power_is_lost_with_fewer_marks_than_parts(self):
        for marks in (0, 1, 2):
            with self.subTest(marks=marks):
                bench = three_parts()
                told = bench.run(put(1, 1), put(0, 0), done(1, 1, marks), cut(), put(1, 1), giveup(1, 1))
                self.assertEqual(told[2:], [[3, 0], [0], [1, 0], [-7]])
                self.assertEqual(bench.records(0, 1), [(0, 1, 1, 1), (1, 1, 1, 2), (2, 2, 1, 0)])
                self.assertEqual(bench.records(1, 0), [(0, 1, 1, 1), (1, 2, 1, 0)])
                self.assertEqual(bench.records(0, 0), [(0, 1, 1, 1), (1, 0, 0, 0), (2, 2, 1, 0)])

    def test_no_power_is_lost_with_as_many_marks(self):
        for marks in (3, 4, 100):
            self.assertEqual(three_parts().run(put(1, 1), done(1, 1, marks), cut())[1:], [[3, 0], [1]])

    def test_others_are_given_up_when_power_is_lost(self):
        # Sender 2 came first, so its mark stands first.
        bench = Bench(BOOKS, sender(2), sender(1), begin(1, 1), begin(2, 1), send(2, 1, 1, 0, 0), send(1, 1, 1, 0, 0),
                      done(1, 1, 0))
        self.assertEqual(bench.records(0, 0), [(0, 1, 2, 1), (1, 1, 1, 1), (2, 3, 2, 0), (3, 2, 1, 0)])
        self.assertEqual(bench.run(giveup(2, 1), giveup(1, 1)), [[-7], [-7]])

    def test_marks_before_the_loss_stand_before_those_of_others(self):
        bench = Bench(BOOKS, sender(2), sender(1), begin(1, 1), begin(2, 1), send(2, 1, 1, 0, 0), send(2, 1, 1, 0, 1),
                      send(1, 1, 1, 0, 0), send(1, 1, 1, 0, 1), done(1, 1, 1))
        self.assertEqual(bench.records(0, 0), [(0, 1, 2, 1), (1, 1, 1, 1), (2, 2, 1, 0), (3, 3, 2, 0)])
        self.assertEqual(bench.records(0, 1), [(0, 1, 2, 1), (1, 1, 1, 1), (2, 3, 2, 0), (3, 2, 1, 0)])

    def test_range(self):
        self.assertEqual(opened().run(done(1, 1, -1), done(1, 1, 101), done(1, 1, 10 ** 18), done(1, 1, 100)),
                         [[-1], [-1], [-1], [0, 0]])
        self.assertEqual(opened().run(done(1, 1, 0)), [[0, 0]])

    def test_refusals_in_order(self):
        told = run(BOOKS, sender(1), done(2, 9, -1), done(1, 9, -1), done(1, 1, -1), begin(1, 1), done(1, 2, -1),
                   done(1, 1, -1), done(1, 1, 0), done(1, 1, 0))
        self.assertEqual(told[2:], [[-5], [-8], [-7], [0], [-8], [-1], [0, 0], [-7]])

    def test_a_mark_may_fill_a_segment(self):
        told = run(books("BOOK a PARTS 1 SEGMENT 3"), sender(1), begin(1, 1), send(1, 1, 1, 0, 0), put(0, 0), done(1, 1),
                   put(0, 0), cut(), put(0, 0))
        self.assertEqual(told[5:], [[1, 0], [0, 3], [1], [0, 3]])


class PowerLost(unittest.TestCase):
    def test_sender_by_sender_in_the_order_in_which_they_came(self):
        bench = Bench(BOOKS, sender(5), sender(2), sender(5), begin(2, 1), begin(5, 2), send(2, 1, 1, 0, 0),
                      send(5, 2, 1, 0, 0), flush(0), cut())
        self.assertEqual(bench.records(0, 0), [(0, 1, 2, 1), (1, 1, 5, 1), (2, 3, 5, 0), (3, 3, 2, 0)])

    def test_its_parts_are_marked_though_its_records_are_lost(self):
        bench = opened(send(1, 1, 1, 0, 0), put(0, 1))
        self.assertEqual(bench.run(cut(), cut(), begin(1, 1)), [[2], [0], [0]])
        self.assertEqual(bench.records(0, 0), [(0, 3, 1, 0)])
        self.assertEqual(bench.records(0, 1), [])
        self.assertEqual(bench.run(send(1, 1, 1, 0, 0)), [[0, 1, 0]])

    def test_a_later_transaction_begins_without_parts(self):
        bench = opened(send(1, 1, 1, 0, 0), cut(), begin(1, 1), send(1, 1, 1, 0, 1))
        self.assertEqual(bench.run(done(1, 1)), [[1, 0]])
        self.assertEqual(bench.records(0, 0), [(0, 3, 1, 0)])

    def test_groups_read_from_their_kept_places(self):
        bench = Bench(BOOKS, group(0, 0), group(2, 1))
        bench.store.groups[0].kept = [3, 1]
        bench.store.groups[0].read_up_to = [5, 4]
        bench.store.groups[2].read_up_to = [1, 0]
        bench.run(cut())
        self.assertEqual((bench.store.groups[0].kept, bench.store.groups[0].read_up_to), ([3, 1], [3, 1]))
        self.assertEqual(bench.store.groups[2].read_up_to, [0, 0])
        bench.store.groups[0].read_up_to[0] = 4
        self.assertEqual(bench.store.groups[0].kept, [3, 1])


if __name__ == "__main__":
    unittest.main()
