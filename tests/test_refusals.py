"""Each number of the calls 14 to 27 out of its range, alone and two at a time, in one well filled store."""

import itertools
import unittest

from tests.calling import (Bench, begin, books, fetch, find, findtime, flush, group, groupat, join, keep, leave, map_of,
                           part_at, place, put, read, send, sender, senderat, tighten, work)

HUGE = 10 ** 18
LINES = "BOOK a PARTS 2 SEGMENT 2/BOOK b PARTS 2 SEGMENT 2 TIGHT/BOOK c PARTS 1 SEGMENT 2 KEEP 0"

# (which number, wrong ones for it, the refusal)
GROUP = (1, (-HUGE, -1, 1, 4, HUGE), -4)
GENERATION = (3, (-HUGE, -1, 0, 2, HUGE), -8)
MEMBER = (2, (-HUGE, -1, 0, 4, 6, HUGE), -9)
PART = (4, (-HUGE, -1, 2, HUGE), -9)
BOOK = (1, (-HUGE, -1, 3, 4, HUGE), -2)
PART_OF_BOOK = (2, (-HUGE, -1, 2, HUGE), -2)
TWENTY = (-HUGE, -1, 0, 21, HUGE)
CAREFUL = (-HUGE, -1, 2, HUGE)
# Each call as it is answered, then what may be wrong in it, in the order of the refusals.
CALLS = [
    (join(0, 5), [GROUP, (2, (-HUGE, -1, 6, HUGE), -1)]),
    (join(0, 5), [GROUP, (2, (3,), -3)]),
    (leave(0, 3), [GROUP, (2, (-HUGE, -1, 0, 5, 6, HUGE), -9)]),
    (fetch(0, 3, 1, 0, 1, 1), [GROUP, GENERATION, MEMBER, PART, (5, TWENTY, -1), (6, CAREFUL, -1)]),
    (keep(0, 3, 1, 0, 2), [GROUP, GENERATION, MEMBER, PART, (5, (-HUGE, -1, 0, 4, HUGE), -1)]),
    (groupat(0), [GROUP]),
    (work(0, 3, 1, 0, 2, 1, 1, 1, 0), [
        GROUP, GENERATION, MEMBER, PART, (5, (-HUGE, -1, 0, 1, 9, HUGE), -5), (6, (-HUGE, -1, 0, 2, HUGE), -8),
        (7, (-HUGE, -1, 0, 3, HUGE), -2), (8, TWENTY, -1), (9, (-HUGE, -3, 101, HUGE), -1), (5, (3,), -7)]),
    (tighten(1), [BOOK]),
    (tighten(1), [(1, (0, 2), -6)]),
    (find(0, 0, 0), [BOOK, PART_OF_BOOK, (3, (-HUGE, -1), -1)]),
    (find(0, 0, 0), [BOOK, PART_OF_BOOK, (3, (5, HUGE), -6)]),
    (findtime(0, 0, 0), [BOOK, PART_OF_BOOK, (3, (-HUGE, -1), -1)]),
    (findtime(0, 0, 0), [BOOK, PART_OF_BOOK, (3, (8, HUGE), -6)]),
    (read(0, 0, 0, 1, 1), [BOOK, PART_OF_BOOK, (3, (-HUGE, -1), -1), (4, TWENTY, -1), (5, CAREFUL, -1)]),
    (map_of(0), [BOOK]),
    (part_at(0, 0), [BOOK, PART_OF_BOOK]),
    (senderat(2), [(1, (-HUGE, -1, 0, 1, 9, HUGE), -5)]),
]


# Part 0 of book 0 has 5 records; group 0 has read up to 3 there and keeps 1; sender 3 has a transaction open.
def filled():
    return Bench(books(LINES), sender(2), sender(3), *[put(0, 0, time) for time in (3, 4, 5, 6, 7)], put(0, 1), put(1, 1),
                 flush(0), group(0, 0), join(0, 3), fetch(0, 3, 1, 0, 3), keep(0, 3, 1, 0, 1), begin(3, 1),
                 send(3, 1, 1, 1, 0), place(3, 1, 0, 3, 1, 0, 2))


def changed(call, index, number):
    return call[:index] + [number] + call[index + 1:]


class Refusals(unittest.TestCase):
    def check_refused(self, bench, before, call, refusal):
        with self.subTest(call=call):
            self.assertEqual(bench.run(call), [[refusal]])
            self.assertEqual(bench.state(), before)

    def test_the_calls_as_they_are_answered(self):
        for call, wrong in CALLS:
            self.assertGreaterEqual(filled().run(call)[0][0], 0, call)

    def test_each_number_alone(self):
        bench = filled()
        before = bench.state()
        for call, wrong in CALLS:
            for index, numbers, refusal in wrong:
                for number in numbers:
                    self.check_refused(bench, before, changed(call, index, number), refusal)

    def test_of_two_the_first_told_counts(self):
        bench = filled()
        before = bench.state()
        for call, wrong in CALLS:
            for first, second in itertools.combinations(wrong, 2):
                if first[0] == second[0]:
                    continue
                for one, other in itertools.product(first[1], second[1]):
                    both = changed(changed(call, first[0], one), second[0], other)
                    self.check_refused(bench, before, both, first[2])


if __name__ == "__main__":
    unittest.main()
