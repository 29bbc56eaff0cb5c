import unittest

from tests.calling import Bench, books, books_bytes, last, put, run, show, signs

GOOD = "BOOK a PARTS 1 SEGMENT 1"


def told(text):
    return last(books(text))


# The lines that show answers, as texts.
def lines_shown(text):
    answer = last(books(text), show())
    lines = []
    position = 1
    for turn in range(answer[0]):
        length = answer[position]
        row = answer[position + 1:position + 1 + length]
        lines.append("".join([chr(sign) for sign in row]))
        position += 1 + length
    assert position == len(answer)
    return lines


class GoodTexts(unittest.TestCase):
    def test_how_many(self):
        self.assertEqual(told(GOOD), [0, 1])
        self.assertEqual(told(GOOD + "/BOOK b PARTS 2 SEGMENT 2"), [0, 2])
        four = "/".join([f"BOOK {name} PARTS 1 SEGMENT 1" for name in "abcd"])
        self.assertEqual(told(four), [0, 4])

    def test_an_empty_text_tells_no_books(self):
        self.assertEqual(run(books(""), show(), put(0, 1), books(GOOD), show()),
                         [[0, 0], [0], [-2], [0, 1], [1, len(GOOD)] + signs(GOOD)])

    def test_lines_without_words_say_nothing(self):
        self.assertEqual(told("//   / "), [0, 0])
        self.assertEqual(told("/  /" + GOOD + "// /BOOK b PARTS 1 SEGMENT 1/"), [0, 2])

    def test_several_blanks(self):
        self.assertEqual(lines_shown("   BOOK    a  PARTS   1 SEGMENT  1    KEEP   2   "), [GOOD + " KEEP 2"])

    def test_names(self):
        self.assertEqual(told("BOOK z PARTS 1 SEGMENT 1"), [0, 1])
        self.assertEqual(told("BOOK abcdefgz PARTS 1 SEGMENT 1"), [0, 1])

    def test_numbers_at_their_edges(self):
        for line in ("PARTS 4 SEGMENT 50", "PARTS 1 SEGMENT 1 KEEP 0", "PARTS 1 SEGMENT 1 KEEP 500"):
            self.assertEqual(lines_shown("BOOK a " + line), ["BOOK a " + line])

    def test_zeros_before(self):
        self.assertEqual(lines_shown("BOOK a PARTS 0002 SEGMENT 010 KEEP 0500"), ["BOOK a PARTS 2 SEGMENT 10 KEEP 500"])
        self.assertEqual(lines_shown("BOOK a PARTS 02 SEGMENT 0050 KEEP 0000"), ["BOOK a PARTS 2 SEGMENT 50 KEEP 0"])

    def test_shown(self):
        text = "BOOK in PARTS 2 SEGMENT 3/BOOK out PARTS 4 SEGMENT 50 TIGHT/BOOK c PARTS 1 SEGMENT 1 KEEP 25"
        self.assertEqual(lines_shown(text), text.split("/"))

    def test_show_without_books(self):
        self.assertEqual(run(show()), [[0]])

    def test_what_a_line_tells_is_kept(self):
        bench = Bench(books("BOOK a PARTS 2 SEGMENT 7 TIGHT/BOOK b PARTS 3 SEGMENT 9 KEEP 4/BOOK c PARTS 1 SEGMENT 1"))
        found = [(len(book.parts), book.segment_size, book.is_tight, book.keep) for book in bench.store.books]
        self.assertEqual(found, [(2, 7, True, None), (3, 9, False, 4), (1, 1, False, None)])

    def test_books_are_empty(self):
        bench = Bench(books("BOOK a PARTS 2 SEGMENT 7"))
        self.assertEqual(bench.records(0, 0) + bench.records(0, 1), [])
        self.assertEqual(bench.run(put(0, 1), put(0, 0)), [[1, 0], [0, 0]])


class Faults(unittest.TestCase):
    def check_fault(self, fault, *lines):
        for line in lines:
            with self.subTest(line=line):
                self.assertEqual(run(books(line), show()), [[1, fault, 1], [0]])

    def test_1_the_first_word(self):
        self.check_fault(1, "book a PARTS 1 SEGMENT 1", "BOOKS a PARTS 1 SEGMENT 1", "BOO", "a BOOK PARTS 1 SEGMENT 1",
                         "\tBOOK a PARTS 1 SEGMENT 1", "BOOK\ta PARTS 1 SEGMENT 1", "\r", "\0")

    def test_2_the_name(self):
        self.check_fault(2, "BOOK", "BOOK PARTS 1 SEGMENT 1", "BOOK abcdefghi PARTS 1 SEGMENT 1",
                         "BOOK aB PARTS 1 SEGMENT 1", "BOOK a1 PARTS 1 SEGMENT 1", "BOOK a` PARTS 1 SEGMENT 1",
                         "BOOK a{ PARTS 1 SEGMENT 1", "BOOK 1 PARTS 1 SEGMENT 1", "BOOK \xe9 PARTS 1 SEGMENT 1")

    def test_2_a_name_told_before(self):
        self.assertEqual(told(GOOD + "/BOOK b PARTS 1 SEGMENT 1/BOOK a PARTS 2 SEGMENT 2"), [1, 2, 3])

    def test_3_parts(self):
        self.check_fault(3, "BOOK a", "BOOK a PARTS", "BOOK a PART 1 SEGMENT 1", "BOOK a PARTS 0 SEGMENT 1",
                         "BOOK a PARTS 5 SEGMENT 1", "BOOK a PARTS x SEGMENT 1", "BOOK a PARTS -1 SEGMENT 1",
                         "BOOK a PARTS +1 SEGMENT 1", "BOOK a PARTS 00001 SEGMENT 1", "BOOK a parts 1 SEGMENT 1",
                         "BOOK a SEGMENT 1 PARTS 1", "BOOK a PARTS 1: SEGMENT 1")

    def test_3_a_slash_is_no_digit(self):
        line = "BOOK a PARTS 1 SEGMENT / KEEP 1"
        self.assertEqual(last(books_bytes(signs(line))), [1, 3, 1])
        self.assertEqual(last(books_bytes(signs("BOOK a PARTS 1 SEGMENT 2/"))), [1, 3, 1])
        self.assertEqual(last(books_bytes(signs("BOOK a PARTS 1 SEGMENT 2:"))), [1, 3, 1])

    def test_3_segment(self):
        self.check_fault(3, "BOOK a PARTS 1", "BOOK a PARTS 1 SEGMENT", "BOOK a PARTS 1 SEGMENT 0",
                         "BOOK a PARTS 1 SEGMENT 51", "BOOK a PARTS 1 SEGMENTS 5", "BOOK a PARTS 1 SEGMENT 00050",
                         "BOOK a PARTS 1 TIGHT", "BOOK a PARTS 1 KEEP 5")

    def test_3_what_follows(self):
        self.check_fault(3, GOOD + " TIGH", GOOD + " KEEP", GOOD + " KEEP 501", GOOD + " KEEP -1", GOOD + " KEEP x",
                         GOOD + " KEEP 00005", GOOD + " TIGHT TIGHT", GOOD + " TIGHT KEEP 5", GOOD + " KEEP 5 TIGHT",
                         GOOD + " 5", GOOD + " KEEP 5 5", GOOD + " tight", GOOD + " TIGHT 5", GOOD + " keep 5")

    def test_4_the_5th_book(self):
        four = "/".join([f"BOOK {name} PARTS 1 SEGMENT 1" for name in "abcd"])
        self.assertEqual(told(four + "/BOOK e PARTS 1 SEGMENT 1"), [1, 4, 5])
        self.assertEqual(told(four + "/ //BOOK e PARTS 1 SEGMENT 1"), [1, 4, 7])

    def test_the_order_of_faults(self):
        four = "/".join([f"BOOK {name} PARTS 1 SEGMENT 1" for name in "abcd"])
        self.assertEqual(told(four + "/BOK a PARTS 9 SEGMENT 1"), [1, 1, 5])
        self.assertEqual(told(four + "/BOOK a PARTS 9 SEGMENT 1"), [1, 2, 5])
        self.assertEqual(told(four + "/BOOK a PARTS 1 SEGMENT 1"), [1, 2, 5])
        self.assertEqual(told(four + "/BOOK e PARTS 9 SEGMENT 1"), [1, 3, 5])

    def test_the_first_line_with_a_fault_counts(self):
        self.assertEqual(told(GOOD + "/BOOK b PARTS 9 SEGMENT 1/NO"), [1, 3, 2])
        self.assertEqual(told("/ /" + GOOD + "//BOOK b/BOK"), [1, 3, 5])

    def test_nothing_changes(self):
        self.assertEqual(run(books(GOOD + "/NO"), show(), put(0, 1), books(GOOD), put(0, 1)),
                         [[1, 1, 2], [0], [-2], [0, 1], [0, 0]])


class Refusals(unittest.TestCase):
    def test_there_are_books(self):
        told = run(books(GOOD), put(0, 1), books("BOOK b PARTS 2 SEGMENT 2"), books(""), books("NO"), show(), put(0, 1))
        self.assertEqual(told[2:5], [[-3], [-3], [-3]])
        self.assertEqual(told[5], [1, len(GOOD)] + signs(GOOD))
        self.assertEqual(told[6], [0, 1])

    def test_there_are_books_counts_before_the_range(self):
        self.assertEqual(last(books(GOOD), books_bytes([256])), [-3])
        self.assertEqual(last(books(GOOD), books_bytes([32] * 401)), [-3])

    def test_the_length(self):
        line = signs(GOOD)
        self.assertEqual(last(books_bytes(line + [32] * (400 - len(line)))), [0, 1])
        self.assertEqual(run(books_bytes(line + [32] * (401 - len(line))), show()), [[-1], [0]])
        self.assertEqual(last(books_bytes([32] * 400)), [0, 0])
        self.assertEqual(last(books_bytes([32] * 401)), [-1])
        self.assertEqual(last(books_bytes([10] * 500)), [-1])

    def test_numbers_that_are_no_bytes(self):
        for number in (-1, 256, -10 ** 18, 10 ** 18):
            self.assertEqual(run(books_bytes(signs(GOOD + "\n") + [number]), show()), [[-1], [0]])

    def test_bytes_at_their_edges(self):
        self.assertEqual(last(books_bytes([0])), [1, 1, 1])
        self.assertEqual(last(books_bytes([255])), [1, 1, 1])

    def test_the_range_counts_before_a_fault(self):
        self.assertEqual(last(books_bytes(signs("NO\n") + [256])), [-1])
        self.assertEqual(last(books_bytes(signs("NO\n") + [32] * 400)), [-1])


if __name__ == "__main__":
    unittest.main()
