import random
import unittest

from recordbooks.desk import answers
from tests.calling import (begin, books, clear, counts, cut, done, fetch, find, findtime, flush, giveup, group, groupat,
                           join, joined, keep, leave, map_of, part_at, parted, place, put, read, remove, run, send, sender,
                           senderat, show, signs, tighten, work)

LINES = "BOOK in PARTS 2 SEGMENT 3/BOOK out PARTS 3 SEGMENT 4 KEEP 5/BOOK last PARTS 1 SEGMENT 2 TIGHT"


def long_list():
    return joined([
        books(LINES), show(), put(0, 4, 1, [7]), put(0, -1, 2, [-8, 9]), remove(0, 5, 3), flush(0), sender(2),
        begin(2, 1), send(2, 1, 1, 0, 4, 5, [1]), send(2, 1, 1, 1, 7, 5, [2]), group(0, 1), done(2, 1, 1), cut(),
        send(2, 1, 1, 0, 4, 5, [1]), giveup(2, 1), place(2, 1, 0, 0, 0, 0, 0), join(0, 5), fetch(0, 5, 1, 1, 1, 0),
        keep(0, 5, 1, 1, 1), groupat(0), work(0, 5, 1, 1, 2, 1, 0, 20, -2), tighten(2), find(0, 0, 1), findtime(0, 0, 2),
        read(0, 1, 0, 2, 0), map_of(0), part_at(0, 1), senderat(2), counts(), leave(0, 5), clear(), show(),
    ])


def random_group_call(chance):
    number = chance.choice([0, 0, 0, 1])
    member = chance.choice([0, 0, 1, 6])
    generation = chance.choice([0, 1, 1, 2, 2, 3])
    part = chance.choice([0, 0, 1, 2])
    told = chance.choice([0, 1, 2, 3])
    how_many = chance.choice([1, 2, 20, 21])
    return chance.choice([
        join(number, member), leave(number, chance.choice([0, 1, 2])), groupat(number),
        fetch(number, member, generation, part, how_many, chance.choice([0, 1])),
        keep(number, member, generation, part, told),
        place(chance.choice([1, 2]), 1, number, member, generation, part, told),
        work(number, member, generation, part, chance.choice([1, 2]), 1, 1, how_many, chance.choice([-2, -1, 0, 1, 100])),
        work(number, member, generation, part, 2, 1, chance.choice([0, 2]), how_many, chance.choice([-3, 0, 101])),
    ])


def random_look(chance):
    book = chance.choice([0, 1, 2, 3])
    part = chance.choice([0, 1, 2])
    told = chance.choice([-1, 0, 1, 2, 5])
    return chance.choice([
        tighten(book), find(book, part, told), findtime(book, part, told), read(book, part, told, 20, 0),
        read(book, part, told, chance.choice([0, 1, 3]), 1), map_of(book), part_at(book, part), senderat(part), counts(),
    ])


def random_call(chance):
    return chance.choice([random_put, random_put, random_group_call, random_look])(chance)


def random_put(chance):
    number = chance.choice([1, 1, 2, 2, 3])
    epoch = chance.choice([1, 1, 1, 2])
    book = chance.choice([0, 0, 1, 1, 2, 3, -1])
    key = chance.choice([0, 1, 2, 3, 99, 100, -1])
    told = chance.choice([1, 1, 2, 2, 3, 4, 0])
    return chance.choice([
        put(book, key, chance.choice([0, 5, -1]), [1] * chance.choice([0, 1, 5, 6])),
        remove(book, key, 0), flush(book), cut(), sender(number), send(number, epoch, told, book, key, 3, [4]),
        send(number, epoch, told, book, key, 3, [4]), send(number, epoch, told, book, key, 3, [4]),
        begin(number, epoch), begin(number, epoch), done(number, epoch, chance.choice([0, 1, 2, 100, 101])),
        giveup(number, epoch), group(chance.choice([0, 3, 4]), book),
        place(number, epoch, 0, chance.choice([-1, 0]), 0, chance.choice([-1, 0]), 0), show(), books("BOOK"),
    ])


class Interface(unittest.TestCase):
    def test_each_answer_stands_behind_its_length(self):
        calls = joined([books("BOOK a PARTS 2 SEGMENT 3"), put(0, 5, 1, [7]), put(1, 5), show(), flush(0)])
        line = signs("BOOK a PARTS 2 SEGMENT 3")
        expected = [2, 0, 1] + [2, 1, 0] + [1, -2] + [2 + len(line), 1, len(line)] + line + [1, 1]
        self.assertEqual(answers(calls), expected)

    def test_the_example_of_the_document(self):
        told = run(books("BOOK in PARTS 2 SEGMENT 3/BOOK out PARTS 2 SEGMENT 3"), put(0, 4, 1, [7]), flush(0))
        self.assertEqual(told, [[0, 2], [0, 0], [1]])

    def test_several_calls_in_one_list(self):
        told = parted(answers(long_list()))
        self.assertEqual(told[0], [0, 3])
        self.assertEqual(told[2:], [
            [0, 0], [1, 0], [1, 1], [3], [1],
            [0], [0, 1, 0], [1, 0, 0], [3], [2, 0], [0],
            [0, 1, 1], [-7], [-7],
            [1], [1, 8, 0, 5, 7, 2, 1, 1, 1, 2], [1], [1, 1, 1, 5, 3, 5, 5, 5, 3, 0, 1, 0, 3, 0, 1, 0],
            [0, 2], [0], [1, 8, 1, 5, 4, 2, 1, 1, 1, 1], [1, 8, 1, 5, 4, 2, 1, 1, 1, 1],
            [2, 9, 0, 2, -1, 0, 0, 0, 2, -8, 9, 7, 1, 3, 5, 0, 0, 0, -1], [1, 2, 4, 1], [0, 0, 2, 2, 2, 2, 0], [1, 0],
            [3, 1, 1, 7], [2], [0], [0],
        ])

    def test_the_list_stays_as_it_was(self):
        calls = long_list()
        copy = list(calls)
        answers(calls)
        self.assertEqual(calls, copy)

    def test_what_is_answered_is_not_the_list_itself(self):
        calls = [2]
        told = answers(calls)
        told.append(5)
        self.assertEqual(calls, [2])
        self.assertEqual(answers(calls), [1, 0])

    def test_the_same_list_is_answered_alike_again(self):
        calls = long_list()
        first = answers(calls)
        answers(joined([books("BOOK other PARTS 4 SEGMENT 1"), sender(5), group(2, 0)]))
        self.assertEqual(answers(calls), first)

    def test_whole_numbers_only(self):
        told = answers(long_list())
        self.assertEqual([number for number in told if type(number) is not int], [])
        self.assertIs(type(told), list)

    def test_a_store_is_new_each_time(self):
        run(books("BOOK a PARTS 1 SEGMENT 1"), sender(1), group(0, 0))
        self.assertEqual(run(show(), sender(1), put(0, 1)), [[0], [1], [-2]])

    def test_the_longest_lists(self):
        calls = [books("BOOK a PARTS 1 SEGMENT 50")] + [put(0, 1, 1, [1] * 5) for turn in range(399)]
        self.assertEqual(run(*calls)[-1], [0, 398])
        calls = [books_of_500()] + [put(0, 1, 1, [1] * 20) for turn in range(399)]
        self.assertEqual(run(*calls), [[-1]] + [[-2]] * 399)

    def test_400_calls_that_work_and_read(self):
        calls = [books("BOOK a PARTS 1 SEGMENT 50/BOOK b PARTS 1 SEGMENT 50 TIGHT"), sender(1), group(0, 0), join(0, 0)]
        for turn in range(98):
            calls.extend([put(0, 1, turn), flush(0), work(0, 0, 1, 0, 1, 1, 1), read(1, 0, 2 * turn, 20, 1)])
        calls.extend([tighten(1), map_of(1), part_at(1, 0), counts()])
        told = run(*calls)
        self.assertEqual(len(told), 400)
        self.assertEqual(told[4:396], joined_turns())
        # Of the places 0 to 149 in full segments the marks stay; of the open segment all 46 records do.
        self.assertEqual(told[396:], [[75], [1, 2, 1, 98],
                                      [0, 150, 196, 196, 196, 121, 9, 0, 50, 25, 50, 100, 25, 100, 150, 25], [2, 1, 1, 219]])

    def test_100_maps_of_100_keys(self):
        calls = [books("BOOK a PARTS 4 SEGMENT 50")] + [put(0, key, 0, [key] * 5) for key in range(100)] + [flush(0)]
        told = run(*calls, *[map_of(0) for turn in range(100)])
        self.assertEqual(told[-100:], [told[-1]] * 100)
        self.assertEqual(told[-1], [100] + [number for key in range(100) for number in [6] + [key] * 6])

    def test_a_refused_call_changes_nothing(self):
        chance = random.Random(7)
        for turn in range(200):
            calls = [books(LINES), sender(1), sender(2), group(0, 0)] + [random_call(chance) for call in range(60)]
            told = run(*calls)
            kept = [k for k in range(len(calls)) if told[k][0] >= 0]
            self.assertEqual(run(*[calls[k] for k in kept]), [told[k] for k in kept])


def joined_turns():
    told = []
    for turn in range(98):
        row = [2 * turn, 0, 1, 1, turn + 1, 1, 1, turn + 1]
        # The 50th record fills its segment, so that it's on the disk already.
        flushed = 0 if turn == 49 else 1
        told.extend([[0, turn], [flushed], [1, turn + 1], [2 * turn + 2, 8] + row])
    return told


def books_of_500():
    return [1, 500] + [32] * 500


class Clear(unittest.TestCase):
    def test_answers_0(self):
        self.assertEqual(run(clear()), [[0]])

    def test_books_are_gone(self):
        told = run(books(LINES), put(0, 1), clear(), show(), put(0, 1), cut(), books("BOOK a PARTS 1 SEGMENT 9"),
                   put(0, 1))
        self.assertEqual(told[2:], [[0], [0], [-2], [0], [0, 1], [0, 0]])

    def test_senders_are_gone(self):
        told = run(books(LINES), sender(1), sender(1), begin(1, 2), clear(), begin(1, 2), sender(1), giveup(1, 1))
        self.assertEqual(told[4:], [[0], [-5], [1], [-7]])

    def test_numbers_told_are_gone(self):
        told = run(books(LINES), sender(1), send(1, 1, 1, 0, 0), clear(), books(LINES), sender(1),
                   send(1, 1, 2, 0, 0), send(1, 1, 1, 0, 0))
        self.assertEqual(told[6:], [[-6], [0, 0, 0]])

    def test_groups_are_gone(self):
        self.assertEqual(run(books(LINES), group(0, 0), clear(), books(LINES), group(0, 1))[2:], [[0], [0, 3], [3]])


if __name__ == "__main__":
    unittest.main()
