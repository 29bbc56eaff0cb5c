"""The text that tells books: its faults, its books, and a book shown."""

from recordbooks.books import Book

LINE_END = 10
BLANK = 32
MOST_BOOKS = 4
NO_NUMBER = -1


def bytes_of(words):
    return [ord(sign) for sign in words]


def pieces_between(text, parting):
    pieces = [[]]
    for sign in text:
        if sign == parting:
            pieces.append([])
        else:
            pieces[-1].append(sign)
    return pieces


def words_of(line):
    return [word for word in pieces_between(line, BLANK) if len(word) > 0]


def lines_of(text):
    return [words_of(line) for line in pieces_between(text, LINE_END)]


def is_within(sign, first, last):
    return ord(first) <= sign <= ord(last)


def is_name(word):
    return len(word) <= 8 and all([is_within(sign, "a", "z") for sign in word])


def number_of(word):
    if len(word) > 4 or not all([is_within(sign, "0", "9") for sign in word]):
        return NO_NUMBER
    number = 0
    for sign in word:
        number = number * 10 + sign - ord("0")
    return number


def is_setting(words, title, least, most):
    if len(words) != 2 or words[0] != bytes_of(title):
        return False
    return least <= number_of(words[1]) <= most


def is_ending(words):
    if words == [] or words == [bytes_of("TIGHT")]:
        return True
    return is_setting(words, "KEEP", 0, 500)


def is_rest(words):
    if not is_setting(words[0:2], "PARTS", 1, 4):
        return False
    if not is_setting(words[2:4], "SEGMENT", 1, 50):
        return False
    return is_ending(words[4:])


def line_fault(words, names):
    if words[0] != bytes_of("BOOK"):
        return 1
    if len(words) < 2 or not is_name(words[1]) or words[1] in names:
        return 2
    if not is_rest(words[2:]):
        return 3
    if len(names) == MOST_BOOKS:
        return 4
    return 0


# What's wrong and the line's number, or nothing.
def first_fault(text):
    names = []
    for number, words in enumerate(lines_of(text), start=1):
        if words == []:
            continue
        fault = line_fault(words, names)
        if fault != 0:
            return [fault, number]
        names.append(words[1])
    return []


def book_of(words):
    keep = None
    if len(words) == 8:
        keep = number_of(words[7])
    return Book(words[1], number_of(words[3]), number_of(words[5]), len(words) == 7, keep)


def books_of(text):
    return [book_of(words) for words in lines_of(text) if words != []]


def shown(book):
    parts = len(book.parts)
    size = book.segment_size
    line = bytes_of("BOOK ") + book.name + bytes_of(f" PARTS {parts} SEGMENT {size}")
    if book.is_tight:
        return line + bytes_of(" TIGHT")
    if book.keep is not None:
        keep = book.keep
        return line + bytes_of(f" KEEP {keep}")
    return line
