import unittest

from tests.calling import (Bench, begin, books, cut, done, fetch, flush, group, groupat, join, keep, last, leave, place,
                           put, run, sender, with_rows_parted)

BOOKS = books("BOOK a PARTS 4 SEGMENT 50/BOOK b PARTS 1 SEGMENT 50/BOOK c PARTS 3 SEGMENT 50")


def owners(*calls):
    return with_rows_parted(last(*calls, groupat(0)), 2)[1][1]


def owners_after(book, *changes):
    return owners(BOOKS, group(0, book), *changes)


class Join(unittest.TestCase):
    def test_the_generation(self):
        self.assertEqual(run(BOOKS, group(0, 0), join(0, 3), join(0, 0), join(0, 5))[2:], [[1], [2], [3]])

    def test_each_group_has_its_own(self):
        told = run(BOOKS, group(0, 0), group(3, 0), join(0, 3), join(3, 3), join(0, 4), groupat(3))
        self.assertEqual(told[3:], [[1], [1], [2], [1, 0, 1, 3, 4, 3, 3, 3, 3, 4, 0, 0, 0, 0, 4, 0, 0, 0, 0]])

    def test_refusals_in_order(self):
        told = run(BOOKS, group(1, 0), join(0, 6), join(1, 6), join(1, -1), join(1, 5), join(1, 5), join(1, 0))
        self.assertEqual(told[2:], [[-4], [-1], [-1], [1], [-3], [2]])

    def test_no_such_group(self):
        for number in (-1, 1, 3, 4, -10 ** 18, 10 ** 18):
            self.assertEqual(last(BOOKS, group(0, 0), join(number, 0)), [-4])

    def test_a_refusal_changes_nothing(self):
        bench = Bench(BOOKS, group(1, 0), join(1, 2), fetch(1, 2, 1, 0))
        before = bench.state()
        bench.run(join(0, 1), join(1, 6), join(1, -1), join(1, 2))
        self.assertEqual(bench.state(), before)


class Leave(unittest.TestCase):
    def test_the_generation(self):
        told = run(BOOKS, group(0, 0), join(0, 3), join(0, 1), leave(0, 3), leave(0, 1), join(0, 1))
        self.assertEqual(told[4:], [[3], [4], [5]])

    def test_refusals_in_order(self):
        told = run(BOOKS, group(1, 0), join(1, 2), leave(0, 2), leave(0, 3), leave(1, 3), leave(1, 2), leave(1, 2))
        self.assertEqual(told[3:], [[-4], [-4], [-9], [2], [-9]])

    def test_no_member(self):
        for member in (-1, 0, 1, 3, 6, -10 ** 18, 10 ** 18):
            self.assertEqual(last(BOOKS, group(0, 0), join(0, 2), leave(0, member)), [-9])

    def test_a_refusal_changes_nothing(self):
        bench = Bench(BOOKS, group(1, 0), join(1, 2), fetch(1, 2, 1, 0))
        before = bench.state()
        bench.run(leave(0, 2), leave(1, 3), leave(1, -1))
        self.assertEqual(bench.state(), before)


class GroupAt(unittest.TestCase):
    def test_at_first(self):
        self.assertEqual(last(BOOKS, group(2, 0), groupat(2)), [0, 0, 0, 4, -1, -1, -1, -1, 4, 0, 0, 0, 0, 4, 0, 0, 0, 0])
        self.assertEqual(last(BOOKS, group(2, 1), groupat(2)), [0, 1, 0, 1, -1, 1, 0, 1, 0])

    def test_number_by_number(self):
        told = last(BOOKS, *[put(0, key) for key in (0, 0, 1, 1, 1, 2)], flush(0), group(0, 0), join(0, 5), join(0, 1),
                    fetch(0, 5, 2, 0), fetch(0, 5, 2, 1, 2), keep(0, 5, 2, 1, 1), fetch(0, 1, 2, 2), keep(0, 1, 2, 2, 1),
                    groupat(0))
        self.assertEqual(told, [2, 0, 2, 1, 5, 4, 5, 5, 1, 1, 4, 0, 1, 1, 0, 4, 2, 2, 1, 0])

    def test_no_such_group(self):
        for number in (-1, 1, 4, -10 ** 18, 10 ** 18):
            self.assertEqual(last(BOOKS, group(0, 0), groupat(number)), [-4])

    def test_it_changes_nothing(self):
        bench = Bench(BOOKS, group(0, 0), join(0, 2))
        before = bench.state()
        bench.run(groupat(0), groupat(1))
        self.assertEqual(bench.state(), before)


class WhoHasWhichPart(unittest.TestCase):
    def test_one_member_has_all(self):
        self.assertEqual(owners_after(0, join(0, 3)), [3, 3, 3, 3])

    def test_two_share(self):
        self.assertEqual(owners_after(0, join(0, 3), join(0, 1)), [3, 3, 1, 1])

    def test_three_share(self):
        self.assertEqual(owners_after(0, join(0, 3), join(0, 1), join(0, 0)), [3, 3, 1, 0])
        self.assertEqual(owners_after(2, join(0, 4), join(0, 2)), [4, 4, 2])
        self.assertEqual(owners_after(2, join(0, 4), join(0, 2), join(0, 3)), [4, 3, 2])

    def test_those_of_one_who_left_go_to_the_fewest_then_to_the_least(self):
        self.assertEqual(owners_after(0, join(0, 3), join(0, 1), join(0, 0), leave(0, 3)), [0, 1, 1, 0])
        self.assertEqual(owners_after(0, join(0, 3), join(0, 1), leave(0, 1)), [3, 3, 3, 3])

    def test_more_members_than_parts(self):
        changes = [join(0, 2), join(0, 0), join(0, 5)]
        self.assertEqual(owners_after(1, *changes), [2])
        self.assertEqual(owners_after(1, *changes, leave(0, 2)), [0])
        self.assertEqual(owners_after(1, *changes, leave(0, 0)), [2])

    def test_six_members(self):
        changes = [join(0, member) for member in (5, 4, 3, 2, 1, 0)]
        self.assertEqual(owners_after(0, *changes), [5, 2, 4, 3])
        self.assertEqual(owners_after(0, *changes, leave(0, 4), leave(0, 5)), [1, 2, 0, 3])

    def test_without_members(self):
        changes = [join(0, 2), join(0, 4), leave(0, 2), leave(0, 4)]
        self.assertEqual(owners_after(0, *changes), [-1, -1, -1, -1])
        self.assertEqual(owners_after(0, *changes, join(0, 4), join(0, 2)), [4, 4, 2, 2])

    def test_nobody_reads_without_members(self):
        told = run(BOOKS, group(0, 1), join(0, 2), leave(0, 2), fetch(0, 2, 2, 0), fetch(0, -1, 2, 0), keep(0, -1, 2, 0, 0))
        self.assertEqual(told[4:], [[-9], [-9], [-9]])

    def test_one_who_came_back_has_no_part_of_before(self):
        self.assertEqual(owners_after(0, join(0, 3), join(0, 1), leave(0, 3), join(0, 3)), [1, 1, 3, 3])


class PlacesWhenMembersComeAndGo(unittest.TestCase):
    def bench(self):
        return Bench(BOOKS, *[put(1, 1) for turn in range(5)], flush(1), group(0, 1), join(0, 2), fetch(0, 2, 1, 0, 3),
                     keep(0, 2, 1, 0, 2))

    def test_they_read_from_the_kept_ones(self):
        for change in (join(0, 4), leave(0, 2)):
            bench = self.bench()
            self.assertEqual(bench.run(groupat(0)), [[1, 1, 1, 2, 1, 2, 1, 2, 1, 3]])
            bench.run(change)
            self.assertEqual(bench.run(groupat(0))[0][-4:], [1, 2, 1, 2])

    def test_a_later_fetch_moves_the_place_read_up_to_alone(self):
        bench = self.bench()
        bench.run(join(0, 4), fetch(0, 2, 2, 0, 1))
        self.assertEqual(bench.run(groupat(0))[0][-4:], [1, 2, 1, 3])

    def test_the_generation_of_before_is_refused(self):
        bench = self.bench()
        bench.run(join(0, 4))
        self.assertEqual(bench.run(fetch(0, 2, 1, 0), keep(0, 2, 1, 0, 2), keep(0, 2, 2, 0, 2), keep(0, 2, 2, 0, 3)),
                         [[-8], [-8], [2], [-1]])

    def test_a_transaction_of_before_is_refused(self):
        bench = self.bench()
        told = bench.run(sender(1), begin(1, 1), place(1, 1, 0, 2, 1, 0, 3), join(0, 4), done(1, 1), leave(0, 4), done(1, 1))
        self.assertEqual(told, [[1], [0], [1], [2], [-8], [3], [-8]])
        self.assertEqual(bench.run(groupat(0))[0][-4:], [1, 2, 1, 2])

    def test_power_lost_leaves_members_and_generation(self):
        bench = self.bench()
        bench.run(cut())
        self.assertEqual(bench.run(groupat(0)), [[1, 1, 1, 2, 1, 2, 1, 2, 1, 2]])


if __name__ == "__main__":
    unittest.main()
