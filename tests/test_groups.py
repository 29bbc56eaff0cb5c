import unittest

from recordbooks.groups import Group, handed_over
from tests.calling import Bench, begin, books, done, flush, group, last, place, put, run, send, sender

BOOKS = books("BOOK a PARTS 2 SEGMENT 50/BOOK b PARTS 4 SEGMENT 50")


# A group whose member 3 has both parts of book 0 (3 records each, on the disk) and has read up to [3, 2].
def reading():
    bench = Bench(BOOKS, *[put(0, turn) for turn in range(6)])
    bench.run(flush(0), sender(1), begin(1, 1), group(1, 0))
    bench.store.groups[1].take_in(3)
    bench.store.groups[1].read_up_to = [3, 2]
    return bench


class GroupCall(unittest.TestCase):
    def test_how_many_parts(self):
        self.assertEqual(run(BOOKS, group(0, 1), group(3, 0))[1:], [[4], [2]])

    def test_as_it_is_at_first(self):
        found = Bench(BOOKS, group(2, 0)).store.groups[2]
        self.assertEqual((found.book, found.generation, found.members), (0, 0, []))
        self.assertEqual((found.owners, found.kept, found.read_up_to), ([None, None], [0, 0], [0, 0]))

    def test_refusals(self):
        self.assertEqual(run(BOOKS, group(-1, 0), group(4, 0), group(0, 2), group(0, -1), group(0, 0), group(0, 0),
                             group(0, 1))[1:], [[-1], [-1], [-2], [-2], [2], [-3], [-3]])

    def test_the_order_of_refusals(self):
        self.assertEqual(run(BOOKS, group(0, 0), group(4, 9), group(0, 9), group(0, 0))[2:], [[-1], [-2], [-3]])

    def test_a_refusal_changes_nothing(self):
        bench = Bench(BOOKS, group(0, 1))
        before = bench.state()
        bench.run(group(4, 0), group(1, 2), group(0, 0))
        self.assertEqual(bench.state(), before)


class PlaceWithoutMembers(unittest.TestCase):
    def test_refusals_in_order(self):
        told = run(BOOKS, sender(1), place(2, 9, 9, 9, 9, 9, 9), place(1, 9, 9, 9, 9, 9, 9), place(1, 1, 9, 9, 9, 9, 9),
                   begin(1, 1), place(1, 1, 9, 9, 9, 9, 9), group(1, 0), place(1, 1, 1, 9, 9, 9, 9),
                   place(1, 1, 1, 9, 0, 9, 9), place(1, 1, 1, 0, 0, 0, 9), place(1, 1, 1, 0, 0, 0, 0), done(1, 1))
        self.assertEqual(told[2:], [[-5], [-8], [-7], [0], [-4], [2], [-8], [-9], [-9], [-9], [0, 0]])

    def test_nobody_is_no_member(self):
        told = run(BOOKS, sender(1), begin(1, 1), group(1, 0), place(1, 1, 1, -1, 0, 0, 0), place(1, 1, 1, -1, 0, -1, 0))
        self.assertEqual(told[4:], [[-9], [-9]])

    def test_no_such_group(self):
        for number in (-1, 0, 2, 4, 10 ** 18):
            self.assertEqual(last(BOOKS, sender(1), begin(1, 1), group(1, 0), place(1, 1, number, 0, 0, 0, 0)), [-4])


class Place(unittest.TestCase):
    def test_how_many_places(self):
        told = reading().run(place(1, 1, 1, 3, 1, 0, 2), place(1, 1, 1, 3, 1, 0, 1), place(1, 1, 1, 3, 1, 1, 2),
                             place(1, 1, 1, 3, 1, 1, 2), done(1, 1))
        self.assertEqual(told, [[1], [2], [3], [4], [0, 4]])

    def test_below_the_kept_one(self):
        bench = reading()
        bench.store.groups[1].kept = [1, 0]
        self.assertEqual(bench.run(place(1, 1, 1, 3, 1, 0, 0), place(1, 1, 1, 3, 1, 0, 1), place(1, 1, 1, 3, 1, 1, -1),
                                   place(1, 1, 1, 3, 1, 1, 0)), [[-1], [1], [-1], [2]])

    def test_above_the_one_read_up_to(self):
        self.assertEqual(reading().run(place(1, 1, 1, 3, 1, 0, 4), place(1, 1, 1, 3, 1, 0, 3),
                                       place(1, 1, 1, 3, 1, 1, 3), place(1, 1, 1, 3, 1, 1, 2)), [[-1], [1], [-1], [2]])

    def test_above_what_is_on_the_disk(self):
        bench = reading()
        bench.run(put(0, 0), put(0, 0))
        bench.store.groups[1].read_up_to = [5, 3]
        self.assertEqual(bench.run(place(1, 1, 1, 3, 1, 0, 4), place(1, 1, 1, 3, 1, 0, 3), flush(0),
                                   place(1, 1, 1, 3, 1, 0, 5)), [[-1], [1], [2], [2]])

    def test_the_part_is_not_this_members(self):
        for part in (-1, 2, 10 ** 18):
            self.assertEqual(reading().run(place(1, 1, 1, 3, 1, part, 0)), [[-9]])
        for member in (-1, 0, 2, 6):
            self.assertEqual(reading().run(place(1, 1, 1, member, 1, 0, 0)), [[-9]])

    def test_the_order_of_refusals(self):
        told = reading().run(place(1, 1, 1, 2, 0, 0, 9), place(1, 1, 1, 2, 1, 0, 9), place(1, 1, 1, 3, 1, 0, 9))
        self.assertEqual(told, [[-8], [-9], [-1]])

    def test_a_refusal_changes_nothing(self):
        bench = reading()
        before = bench.state()
        bench.run(place(1, 1, 1, 2, 0, 0, 9), place(1, 1, 1, 2, 1, 0, 9), place(1, 1, 1, 3, 1, 0, 9))
        self.assertEqual(bench.state(), before)

    def test_places_are_moved_when_it_is_done(self):
        bench = reading()
        bench.run(place(1, 1, 1, 3, 1, 0, 2), place(1, 1, 1, 3, 1, 0, 1), place(1, 1, 1, 3, 1, 1, 1))
        self.assertEqual(bench.store.groups[1].kept, [0, 0])
        bench.run(done(1, 1))
        self.assertEqual((bench.store.groups[1].kept, bench.store.groups[1].read_up_to), ([2, 1], [3, 2]))

    def test_places_only_move_up(self):
        bench = reading()
        bench.run(place(1, 1, 1, 3, 1, 0, 1))
        bench.store.groups[1].kept = [2, 0]
        bench.run(done(1, 1))
        self.assertEqual(bench.store.groups[1].kept, [2, 0])

    def test_places_are_moved_before_power_is_lost(self):
        bench = reading()
        bench.run(send(1, 1, 1, 1, 0), place(1, 1, 1, 3, 1, 0, 2))
        self.assertEqual(bench.run(done(1, 1, 0)), [[1, 1]])
        self.assertEqual((bench.store.groups[1].kept, bench.store.groups[1].read_up_to), ([2, 0], [2, 0]))

    def test_another_generation_by_now(self):
        bench = reading()
        bench.run(group(2, 1), send(1, 1, 1, 1, 0), place(1, 1, 1, 3, 1, 0, 2))
        bench.store.groups[2].take_in(0)
        bench.run(place(1, 1, 2, 0, 1, 0, 0))
        bench.store.groups[1].take_in(4)
        before = bench.state()
        self.assertEqual(bench.run(done(1, 1, 101), done(1, 1)), [[-1], [-8]])
        self.assertEqual(bench.state(), before)


class Members(unittest.TestCase):
    def test_generation_and_places(self):
        found = Group(0, 2)
        found.kept = [4, 0]
        found.read_up_to = [6, 3]
        found.take_in(5)
        self.assertEqual((found.generation, found.members, found.read_up_to), (1, [5], [4, 0]))
        found.take_in(2)
        found.read_up_to = [5, 1]
        found.let_out(5)
        self.assertEqual((found.generation, found.members, found.read_up_to), (3, [2], [4, 0]))
        self.assertEqual((found.owners, found.kept), ([2, 2], [4, 0]))

    def test_members_rise(self):
        found = Group(0, 1)
        for member in (3, 0, 5):
            found.take_in(member)
        self.assertEqual(found.members, [0, 3, 5])

    def test_without_members_nobody_has_any(self):
        self.assertEqual(handed_over([1, 1, 2], []), [None, None, None])

    def test_parts_of_nobody_go_to_those_with_fewest(self):
        self.assertEqual(handed_over([None] * 4, [2]), [2, 2, 2, 2])
        self.assertEqual(handed_over([None] * 4, [1, 3]), [1, 3, 1, 3])
        self.assertEqual(handed_over([None] * 4, [0, 1, 2]), [0, 1, 2, 0])
        self.assertEqual(handed_over([None] * 2, [0, 1, 2]), [0, 1])

    def test_parts_stay_as_far_as_they_may(self):
        # q is 2: the first two stay, the others go.
        self.assertEqual(handed_over([0, 0, 0, 0], [0, 1]), [0, 0, 1, 1])
        # q is 1, 1 is left: one member may have 2.
        self.assertEqual(handed_over([0, 0, 1, 1], [0, 1, 2]), [0, 0, 1, 2])
        self.assertEqual(handed_over([1, 0, 0, 1], [0, 1, 2]), [1, 0, 0, 2])
        # q is 1, 2 are left of 5 parts and 3 members.
        self.assertEqual(handed_over([4, 4, 4, 5, 5], [3, 4, 5]), [4, 4, 3, 5, 5])
        # q is 0: each of as many members as there are parts may have one.
        self.assertEqual(handed_over([1, 1], [0, 1, 2]), [1, 0])
        self.assertEqual(handed_over([2, 1], [0, 1, 2]), [2, 1])

    def test_parts_of_those_who_left(self):
        self.assertEqual(handed_over([0, 1, 2, 0], [1, 2]), [1, 1, 2, 2])
        self.assertEqual(handed_over([0, 1, 2, 0], [0, 2]), [0, 2, 2, 0])


if __name__ == "__main__":
    unittest.main()
