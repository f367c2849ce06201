"""The calls on a store, handed in as one list of whole numbers, and their answers."""

from greentrace.ledger import read_text
from greentrace.lines import GOOD, bytes_of, signs_of
from greentrace.parts import green_of, kilos_of
from greentrace.ratios import ZERO, greatest, least, over, total

STORE = 0

# What is answered first: done as told, or told wrongly; or a refusal.
DONE = 0
WRONG = 1
NO_STORE = -1
OUT_OF_RANGE = -2
NONE_THERE = -3
NO_WAY_LEFT = -6

# How many whole numbers stand behind a call's number, ahead of its rows.
NUMBERS = {0: 0, 1: 0, 2: 0, 3: 2, 4: 0, 5: 0, 6: 2, 7: 1, 8: 0, 9: 2, 10: 2}
# The calls that have a row.
ROWS = (0, 2)


def is_number_of(number, things):
    return 0 <= number < len(things)


def counted(ledger):
    layout = ledger.layout
    return [DONE, len(layout.lots), len(layout.places), len(ledger.entries), len(ledger.ways())]


def bounds(fractions):
    """At least and at most."""
    return [DONE] + list(least(fractions)) + list(greatest(fractions))


def sold_counts(ledger):
    return [len(way.sold) for way in ledger.ways()]


def is_sold(ledger, number):
    return 0 <= number < max(sold_counts(ledger))


def sold_parts(ledger, number):
    """For each way the k-th sold: the part in a list, or an empty list where there's none."""
    return [way.sold[number:number + 1] for way in ledger.ways()]


def green_share(parts, lot):
    if parts == []:
        return ZERO
    return over(parts[0].greens[lot], total(parts[0].greens))


def answer_print(ledger, numbers, row):
    return [DONE] + bytes_of(ledger.shown())


def answer_more(ledger, numbers, row):
    why = ledger.add_line(signs_of(row))
    if why != GOOD:
        return [WRONG, why]
    return counted(ledger)


def answer_settle(ledger, numbers, row):
    entry = numbers[0]
    choice = numbers[1]
    if not is_number_of(entry, ledger.entries) or not is_number_of(choice, ledger.entries[entry]):
        return [OUT_OF_RANGE]
    if not ledger.settle(entry, choice):
        return [NO_WAY_LEFT]
    return counted(ledger)


def answer_undo(ledger, numbers, row):
    if ledger.entries == []:
        return [NONE_THERE]
    ledger.undo()
    return counted(ledger)


def answer_worlds(ledger, numbers, row):
    return counted(ledger)


def answer_place(ledger, numbers, row):
    place = numbers[0]
    lot = numbers[1]
    if not is_number_of(place, ledger.layout.places) or not is_number_of(lot, ledger.layout.lots):
        return [OUT_OF_RANGE]
    return bounds([green_of(way.places[place], lot) for way in ledger.ways()])


def answer_kilos(ledger, numbers, row):
    place = numbers[0]
    if not is_number_of(place, ledger.layout.places):
        return [OUT_OF_RANGE]
    return bounds([kilos_of(way.places[place]) for way in ledger.ways()])


def answer_sold(ledger, numbers, row):
    # The document tells at most ahead of at least here, and these are no fractions.
    counts = sold_counts(ledger)
    return [DONE, max(counts), min(counts)]


def answer_trace(ledger, numbers, row):
    lot = numbers[1]
    if not is_sold(ledger, numbers[0]) or not is_number_of(lot, ledger.layout.lots):
        return [OUT_OF_RANGE]
    return bounds([green_of(parts, lot) for parts in sold_parts(ledger, numbers[0])])


def answer_share(ledger, numbers, row):
    lot = numbers[1]
    if not is_sold(ledger, numbers[0]) or not is_number_of(lot, ledger.layout.lots):
        return [OUT_OF_RANGE]
    return bounds([green_share(parts, lot) for parts in sold_parts(ledger, numbers[0])])


ANSWERERS = {
    1: answer_print,
    2: answer_more,
    3: answer_settle,
    4: answer_undo,
    5: answer_worlds,
    6: answer_place,
    7: answer_kilos,
    8: answer_sold,
    9: answer_trace,
    10: answer_share,
}


class Session:
    """The one object that the calls of a list are made on."""

    def __init__(self):
        self.ledger = None

    def read_store(self, text):
        reading = read_text(text)
        if reading[0] is None:
            return [WRONG] + reading[1]
        self.ledger = reading[0]
        return counted(self.ledger)

    def answer(self, call, numbers, row):
        if call == STORE:
            return self.read_store(row)
        if self.ledger is None:
            return [NO_STORE]
        return ANSWERERS[call](self.ledger, numbers, row)


def answers(calls):
    session = Session()
    given = []
    at = 0
    while at < len(calls):
        call = calls[at]
        behind = at + 1 + NUMBERS[call]
        numbers = calls[at + 1:behind]
        row = []
        if call in ROWS:
            row = calls[behind + 1:behind + 1 + calls[behind]]
            behind += 1 + len(row)
        answer = session.answer(call, numbers, row)
        given.append(len(answer))
        given.extend(answer)
        at = behind
    return given
