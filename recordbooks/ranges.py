"""The ranges that several calls ask for."""

from recordbooks.refusals import OutOfRange

BILLION = 1000000000
MOST_IN_TEXT = 400
MOST_IN_VALUE = 5
MOST_KEY = 99


def check_range(number, least, most):
    if not least <= number <= most:
        raise OutOfRange()


def check_key(key):
    check_range(key, 0, MOST_KEY)


def check_time(time):
    check_range(time, 0, BILLION)


def check_value(value):
    check_range(len(value), 0, MOST_IN_VALUE)
    for number in value:
        check_range(number, -BILLION, BILLION)


def check_text(text):
    check_range(len(text), 0, MOST_IN_TEXT)
    for sign in text:
        check_range(sign, 0, 255)
