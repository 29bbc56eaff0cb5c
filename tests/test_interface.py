import random
import unittest

from recordbooks.desk import answers
from tests.calling import (begin, books, clear, cut, done, flush, giveup, group, joined, parted, place, put,
                           remove, run, send, sender, show, signs)

LINES = "BOOK in PARTS 2 SEGMENT 3/BOOK out PARTS 3 SEGMENT 4 KEEP 5/BOOK last PARTS 1 SEGMENT 2 TIGHT"


def long_list():
    return joined([
        books(LINES), show(), put(0, 4, 1, [7]), put(0, -1, 2, [-8, 9]), remove(0, 5, 3), flush(0), sender(2),
        begin(2, 1), send(2, 1, 1, 0, 4, 5, [1]), send(2, 1, 1, 1, 7, 5, [2]), group(0, 1), done(2, 1, 1), cut(),
        send(2, 1, 1, 0, 4, 5, [1]), giveup(2, 1), place(2, 1, 0, 0, 0, 0, 0), clear(), show(),
    ])


def random_call(chance):
    number = chance.choice([1, 1, 2, 2, 3])
    epoch = chance.choice([1, 1, 1, 2])
    book = chance.choice([0, 0, 1, 1, 2, 3, -1])
    key = chance.choice([0, 1, 2, 3, 99, 100, -1])
    told = chance.choice([1, 1, 2, 2, 3, 4, 0])
    return chance.choice([
        put(book, key, chance.choice([0, 5, -1]), [1] * chance.choice([0, 1, 5, 6])),
        remove(book, key, 0), flush(book), cut(), sender(number), send(number, epoch, told, book, key, 3, [4]),
        send(number, epoch, told, book, key, 3, [4]), send(number, epoch, told, book, key, 3, [4]),
        begin(number, epoch), begin(number, epoch), done(number, epoch, chance.choice([0, 1, 2, 100, 101])),
        giveup(number, epoch), group(chance.choice([0, 3, 4]), book),
        place(number, epoch, 0, chance.choice([-1, 0]), 0, chance.choice([-1, 0]), 0), show(), books("BOOK"),
    ])


class Interface(unittest.TestCase):
    def test_each_answer_stands_behind_its_length(self):
        calls = joined([books("BOOK a PARTS 2 SEGMENT 3"), put(0, 5, 1, [7]), put(1, 5), show(), flush(0)])
        line = signs("BOOK a PARTS 2 SEGMENT 3")
        expected = [2, 0, 1] + [2, 1, 0] + [1, -2] + [2 + len(line), 1, len(line)] + line + [1, 1]
        self.assertEqual(answers(calls), expected)

    def test_the_example_of_the_document(self):
        told = run(books("BOOK in PARTS 2 SEGMENT 3/BOOK out PARTS 2 SEGMENT 3"), put(0, 4, 1, [7]), flush(0))
        self.assertEqual(told, [[0, 2], [0, 0], [1]])

    def test_several_calls_in_one_list(self):
        told = parted(answers(long_list()))
        self.assertEqual(told[0], [0, 3])
        self.assertEqual(told[2:], [
            [0, 0], [1, 0], [1, 1], [3], [1],
            [0], [0, 1, 0], [1, 0, 0], [3], [2, 0], [0],
            [0, 1, 1], [-7], [-7], [0], [0],
        ])

    def test_the_list_stays_as_it_was(self):
        calls = long_list()
        copy = list(calls)
        answers(calls)
        self.assertEqual(calls, copy)

    def test_what_is_answered_is_not_the_list_itself(self):
        calls = [2]
        told = answers(calls)
        told.append(5)
        self.assertEqual(calls, [2])
        self.assertEqual(answers(calls), [1, 0])

    def test_the_same_list_is_answered_alike_again(self):
        calls = long_list()
        first = answers(calls)
        answers(joined([books("BOOK other PARTS 4 SEGMENT 1"), sender(5), group(2, 0)]))
        self.assertEqual(answers(calls), first)

    def test_whole_numbers_only(self):
        told = answers(long_list())
        self.assertEqual([number for number in told if type(number) is not int], [])
        self.assertIs(type(told), list)

    def test_a_store_is_new_each_time(self):
        run(books("BOOK a PARTS 1 SEGMENT 1"), sender(1), group(0, 0))
        self.assertEqual(run(show(), sender(1), put(0, 1)), [[0], [1], [-2]])

    def test_the_longest_lists(self):
        calls = [books("BOOK a PARTS 1 SEGMENT 50")] + [put(0, 1, 1, [1] * 5) for turn in range(399)]
        self.assertEqual(run(*calls)[-1], [0, 398])
        calls = [books_of_500()] + [put(0, 1, 1, [1] * 20) for turn in range(399)]
        self.assertEqual(run(*calls), [[-1]] + [[-2]] * 399)

    def test_a_refused_call_changes_nothing(self):
        chance = random.Random(7)
        for turn in range(200):
            calls = [books(LINES), sender(1), sender(2), group(0, 0)] + [random_call(chance) for call in range(60)]
            told = run(*calls)
            kept = [k for k in range(len(calls)) if told[k][0] >= 0]
            self.assertEqual(run(*[calls[k] for k in kept]), [told[k] for k in kept])


def books_of_500():
    return [1, 500] + [32] * 500


class Clear(unittest.TestCase):
    def test_answers_0(self):
        self.assertEqual(run(clear()), [[0]])

    def test_books_are_gone(self):
        told = run(books(LINES), put(0, 1), clear(), show(), put(0, 1), cut(), books("BOOK a PARTS 1 SEGMENT 9"),
                   put(0, 1))
        self.assertEqual(told[2:], [[0], [0], [-2], [0], [0, 1], [0, 0]])

    def test_senders_are_gone(self):
        told = run(books(LINES), sender(1), sender(1), begin(1, 2), clear(), begin(1, 2), sender(1), giveup(1, 1))
        self.assertEqual(told[4:], [[0], [-5], [1], [-7]])

    def test_numbers_told_are_gone(self):
        told = run(books(LINES), sender(1), send(1, 1, 1, 0, 0), clear(), books(LINES), sender(1),
                   send(1, 1, 2, 0, 0), send(1, 1, 1, 0, 0))
        self.assertEqual(told[6:], [[-6], [0, 0, 0]])

    def test_groups_are_gone(self):
        self.assertEqual(run(books(LINES), group(0, 0), clear(), books(LINES), group(0, 1))[2:], [[0], [0, 3], [3]])


if __name__ == "__main__":
    unittest.main()
