"""The ranges that several calls ask for."""

from recordbooks.refusals import OutOfRange

BILLION = 1000000000
MOST_IN_TEXT = 400
MOST_IN_VALUE = 5
MOST_KEY = 99
MOST_MARKS = 100
MOST_TO_READ = 20


def check_range(number, least, most):
    if not least <= number <= most:
        raise OutOfRange()


def check_key(key):
    check_range(key, 0, MOST_KEY)


def check_time(time):
    check_range(time, 0, BILLION)


def check_value(value):
    check_range(len(value), 0, MOST_IN_VALUE)
    for number in value:
        check_range(number, -BILLION, BILLION)


def check_text(text):
    check_range(len(text), 0, MOST_IN_TEXT)
    for sign in text:
        check_range(sign, 0, 255)


def check_at_least_0(number):
    if number < 0:
        raise OutOfRange()


def check_how_many(number):
    check_range(number, 1, MOST_TO_READ)


def check_careful(careful):
    check_range(careful, 0, 1)
