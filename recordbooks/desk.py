"""Answers a list of calls."""

from recordbooks.bookcalls import BOOK_CALLS
from recordbooks.callreader import CallReader
from recordbooks.groupcalls import GROUP_CALLS
from recordbooks.partcalls import PART_CALLS
from recordbooks.refusals import Refusal
from recordbooks.sendercalls import SENDER_CALLS
from recordbooks.store import Store


def answer_call(store, reader):
    number = reader.take_number()
    if number in BOOK_CALLS:
        return BOOK_CALLS[number](store, reader)
    if number in SENDER_CALLS:
        return SENDER_CALLS[number](store, reader)
    if number in GROUP_CALLS:
        return GROUP_CALLS[number](store, reader)
    return PART_CALLS[number](store, reader)


def answer_or_refusal(store, reader):
    try:
        return answer_call(store, reader)
    except Refusal as refusal:
        return [refusal.answer]


def answers_of_store(store, calls):
    reader = CallReader(calls)
    told = []
    while not reader.is_at_end():
        answer = answer_or_refusal(store, reader)
        told.append(len(answer))
        told.extend(answer)
    return told


def answers(calls):
    return answers_of_store(Store(), calls)
