import random
import unittest

from tests.calling import (Bench, begin, books, done, find, flush, giveup, group, join, last, map_of, part_at, put,
                           remove, run, send, sender, tighten, work)

BOOKS = books("BOOK a PARTS 1 SEGMENT 4 TIGHT/BOOK b PARTS 2 SEGMENT 2 TIGHT/BOOK c PARTS 1 SEGMENT 2/"
              "BOOK d PARTS 1 SEGMENT 2 KEEP 4")


def bench_of(*calls):
    return Bench(BOOKS, sender(1), sender(2), *calls)


class Tighten(unittest.TestCase):
    # How many records go, again and again, and the places that are left then.
    def check(self, calls, gone, left):
        bench = bench_of(*calls)
        self.assertEqual(bench.run(*[tighten(0) for turn in gone]), [[count] for count in gone])
        self.assertEqual([record[0] for record in bench.records(0, 0)], left)

    def test_overtaken(self):
        self.check([put(0, 1), put(0, 2), put(0, 1), put(0, 3)], [1, 0], [1, 2, 3])
        self.check([put(0, 1), put(0, 1), put(0, 1), put(0, 1)], [3, 0], [3])

    def test_nothing_to_go(self):
        self.check([], [0], [])
        self.check([put(0, 1), put(0, 2), put(0, 3), put(0, 0)], [0], [0, 1, 2, 3])

    def test_overtaken_over_segments(self):
        self.check([put(0, key) for key in (1, 2, 3, 4, 4, 1, 5, 6)], [2, 0], [1, 2, 4, 5, 6, 7])

    def test_overtaken_by_one_in_the_open_segment(self):
        self.check([put(0, key) for key in (1, 2, 3, 4, 1)], [0], [0, 1, 2, 3, 4])
        self.check([put(0, key) for key in (1, 2, 3, 4, 1)] + [flush(0)], [1, 0], [1, 2, 3, 4])

    def test_records_in_the_open_segment_stay(self):
        self.check([put(0, 1), put(0, 1), flush(0)], [0], [0, 1])
        self.check([put(0, key) for key in (1, 2, 3, 4, 1, 1)] + [flush(0)], [1, 0], [1, 2, 3, 4, 5])
        self.check([remove(0, 1), begin(1, 1), send(1, 1, 1, 0, 2), giveup(1, 1)], [0], [0, 1, 2])

    def test_a_segment_may_get_empty(self):
        bench = bench_of(*[put(0, 1) for turn in range(9)])
        self.assertEqual(bench.run(tighten(0), part_at(0, 0), tighten(0)),
                         [[7], [0, 8, 9, 8, 8, 2, 6, 0, 4, 0, 4, 8, 1], [0]])

    def test_records_without_a_key_stay(self):
        self.check([put(0, -1) for turn in range(6)] + [flush(0)], [0], [0, 1, 2, 3, 4, 5])

    def test_given_up(self):
        self.check([begin(1, 1), send(1, 1, 1, 0, 1), send(1, 1, 2, 0, 2), giveup(1, 1), put(0, 3)], [2, 0], [2, 3])

    def test_what_is_given_up_overtakes_nothing(self):
        self.check([put(0, 1), begin(1, 1), send(1, 1, 1, 0, 1), giveup(1, 1), put(0, 2)], [1, 0], [0, 2, 3])

    def test_what_is_done_overtakes_and_is_overtaken(self):
        self.check([put(0, 1), begin(1, 1), send(1, 1, 1, 0, 1), done(1, 1), put(0, 2)], [1, 0], [1, 2, 3])
        self.check([begin(1, 1), send(1, 1, 1, 0, 1), done(1, 1), put(0, 1), put(0, 2)], [1, 0], [1, 2, 3])

    def test_marks_stay(self):
        calls = []
        for number in (1, 2, 3, 4):
            calls.extend([begin(1, 1), send(1, 1, number, 0, 1), giveup(1, 1) if number < 4 else done(1, 1)])
        self.check(calls, [3, 0], [1, 3, 5, 6, 7])

    def test_at_and_above_where_it_is_stable(self):
        self.check([begin(1, 1), send(1, 1, 1, 0, 9), put(0, 1), put(0, 1), put(0, 1)], [0], [0, 1, 2, 3])
        self.check([begin(1, 1), send(1, 1, 1, 0, 9), put(0, 1), put(0, 1), put(0, 1), done(1, 1)], [2], [0, 3, 4])
        self.check([put(0, 1), put(0, 1), begin(1, 1), send(1, 1, 1, 0, 1), put(0, 1)], [1, 0], [1, 2, 3])

    def test_overtaken_above_where_it_is_stable_only(self):
        self.check([put(0, 1), begin(1, 1), send(1, 1, 1, 0, 2), put(0, 1), put(0, 3)], [0], [0, 1, 2, 3])
        self.check([put(0, 1), put(0, 2), put(0, 3), begin(1, 1), send(1, 1, 1, 0, 1)], [0], [0, 1, 2, 3])

    def test_given_up_by_a_mark_above_where_it_is_stable(self):
        self.check([begin(1, 1), begin(2, 1), send(1, 1, 1, 0, 1), send(2, 1, 1, 0, 2), giveup(1, 1), put(0, 3)], [1, 0],
                   [1, 2, 3])

    def test_given_up_above_where_it_is_stable(self):
        self.check([begin(1, 1), begin(2, 1), send(2, 1, 1, 0, 2), send(1, 1, 1, 0, 1), giveup(1, 1), put(0, 3)], [0],
                   [0, 1, 2, 3])

    def test_a_key_taken_away_without_a_record_before(self):
        self.check([remove(0, 1), put(0, 2), remove(0, 3), put(0, 4)], [2, 0], [1, 3])
        self.check([put(0, -1), remove(0, 1), put(0, 2), put(0, 3)], [1, 0], [0, 2, 3])

    def test_above_where_it_is_stable_it_stays(self):
        self.check([begin(1, 1), send(1, 1, 1, 0, 2), remove(0, 1), put(0, 3), put(0, 4)], [0], [0, 1, 2, 3])

    def test_a_key_taken_away_with_a_record_before(self):
        # What is before goes, yet it is looked at as it was: the one that takes the key away goes the next time.
        self.check([put(0, 1), remove(0, 1), put(0, 2), put(0, 3)], [1], [1, 2, 3])
        self.check([put(0, 1), remove(0, 1), put(0, 2), put(0, 3)], [1, 1, 0], [2, 3])

    def test_a_key_taken_away_with_one_given_up_before(self):
        calls = [begin(1, 1), send(1, 1, 1, 0, 1), giveup(1, 1), remove(0, 1), put(0, 2)]
        self.check(calls, [1], [1, 2, 3])
        self.check(calls, [1, 1, 0], [1, 3])

    def test_a_key_taken_away_twice(self):
        self.check([remove(0, 1), remove(0, 1), put(0, 2), put(0, 3)], [1], [1, 2, 3])
        self.check([remove(0, 1), remove(0, 1), put(0, 2), put(0, 3)], [1, 1, 0], [2, 3])

    def test_a_key_taken_away_and_put_in_again_counts_once(self):
        self.check([remove(0, 1), put(0, 1), put(0, 2), put(0, 3)], [1, 0], [1, 2, 3])

    def test_an_empty_value_takes_nothing_away(self):
        self.check([put(0, 1, 0, []), put(0, 2, 0, []), put(0, 3), put(0, 4)], [0], [0, 1, 2, 3])

    def test_all_its_parts(self):
        bench = bench_of(*[put(1, key) for key in (0, 0, 1, 1, 0, 1, 0)], put(0, 5), put(0, 5), put(0, 5), put(0, 5))
        self.assertEqual(bench.run(tighten(1)), [[4]])
        self.assertEqual([record[0] for record in bench.records(1, 0)], [3])
        self.assertEqual([record[0] for record in bench.records(1, 1)], [1, 2])
        self.assertEqual(len(bench.records(0, 0)), 4)

    def test_parts_by_themselves(self):
        # Work puts key 1 into part 0, put into part 1.
        bench = bench_of(put(2, 1), flush(2), group(0, 2), join(0, 0), work(0, 0, 1, 0, 1, 1, 1), put(1, 1), put(1, 1))
        self.assertEqual(bench.run(tighten(1)), [[1]])
        self.assertEqual([record[0] for record in bench.records(1, 0)], [0, 1])
        self.assertEqual([record[0] for record in bench.records(1, 1)], [1])


class AfterTighten(unittest.TestCase):
    def test_places_stay(self):
        calls = [BOOKS, put(0, 1, 1, [5]), put(0, 1, 2, [6]), put(0, 2, 3, [7]), put(0, 2, 4, [8]), tighten(0)]
        self.assertEqual(run(*calls, find(0, 0, 0), find(0, 0, 2), put(0, 1), part_at(0, 0))[-5:],
                         [[2], [1, 8, 1, 2, 1, 0, 0, 0, 1, 6], [3, 8, 3, 4, 2, 0, 0, 0, 1, 8], [0, 4],
                          [0, 4, 5, 4, 4, 3, 3, 0, 4, 2]])

    def test_numbers_told_stay_told(self):
        told = run(BOOKS, sender(1), *[send(1, 1, number, 0, 1) for number in (1, 2, 3, 4)], tighten(0),
                   send(1, 1, 1, 0, 1), send(1, 1, 4, 0, 1), send(1, 1, 6, 0, 1), send(1, 1, 5, 0, 1))
        self.assertEqual(told[6:], [[3], [0, 0, 1], [0, 3, 1], [-6], [0, 4, 0]])

    def test_values_seen_stay(self):
        chance = random.Random(3)
        for turn in range(100):
            calls = [BOOKS, sender(1)]
            number = 0
            for call in range(40):
                key = chance.randrange(5)
                number += 1
                calls.extend(chance.choice([
                    [put(0, key, call, [call])], [remove(0, key)], [flush(0)], [put(0, -1)], [put(0, key, 0, [call])],
                    [begin(1, 1), send(1, 1, number, 0, key), put(0, key, 1, [call]), giveup(1, 1)],
                    [begin(1, 1), send(1, 1, number, 0, key), put(0, key, 1, [call]), done(1, 1)],
                ]))
                number = number if calls[-1][0] in (11, 12) else number - 1
            before = last(*calls, map_of(0))
            self.assertEqual(last(*calls, tighten(0), map_of(0)), before)
            self.assertEqual(last(*calls, tighten(0), tighten(0), map_of(0)), before)


class RefusedTighten(unittest.TestCase):
    def test_refusals_in_order(self):
        for book in (-1, 4, -10 ** 18, 10 ** 18):
            self.assertEqual(last(BOOKS, tighten(book)), [-2])
        self.assertEqual(run(BOOKS, tighten(2), tighten(3), tighten(0), tighten(1))[1:], [[-6], [-6], [0], [0]])
        self.assertEqual(last(tighten(0)), [-2])

    def test_a_refusal_changes_nothing(self):
        bench = bench_of(*[put(book, 1) for book in (2, 2, 2, 3, 3, 3)], flush(2), flush(3))
        before = bench.state()
        bench.run(tighten(2), tighten(3), tighten(4))
        self.assertEqual(bench.state(), before)


if __name__ == "__main__":
    unittest.main()
