"""The calls on a store, handed in as one list of whole numbers, and their answers."""

from greentrace.amounts import bounds, fewest_sold, masses, most_sold, place_greens, place_weights
from greentrace.amounts import sold_greens, sold_shares, sold_weights
from greentrace.asking import best_entry
from greentrace.ledger import read_text
from greentrace.lines import GOOD, bytes_of, signs_of
from greentrace.ratios import ZERO
from greentrace.recalls import demands_of, fewest_enough, is_enough

STORE = 0

# What is answered first: done as told, or told wrongly; or a refusal.
DONE = 0
WRONG = 1
NO_STORE = -1
OUT_OF_RANGE = -2
NONE_THERE = -3
TOO_MANY_SOLD = -5
NO_WAY_LEFT = -6

# What surely answers.
BY_NO_WAY = 0
WHATEVER_WAS = 1
BY_SOME_WAYS = 2

# What find tells ahead of the number.
A_LOT = 0
A_PLACE = 1

# What ask answers in an entry's place.
NO_ENTRY = -1

MOST_CALLED_BACK = 10
GREATEST_D = 1000

# What each whole number behind a call's number is, ahead of its row. A free one is looked at by its
# call, since its range doesn't follow from the store alone.
ASKED = {
    0: (),
    1: (),
    2: (),
    3: ("entry", "free"),
    4: (),
    5: (),
    6: ("place", "lot"),
    7: ("place",),
    8: (),
    9: ("sold", "lot"),
    10: ("sold", "lot"),
    11: ("sold", "lot"),
    12: ("lot", "free", "free"),
    13: ("sold", "lot"),
    14: ("lot",),
    15: ("way",),
    16: ("way", "place"),
    17: (),
    18: (),
    19: ("lot", "free", "free"),
    20: ("sold",),
    21: ("lot",),
}
# The calls that have a row.
ROWS = (0, 2, 17, 19)


def how_many(ledger, kind):
    if kind == "lot":
        return len(ledger.layout.lots)
    if kind == "place":
        return len(ledger.layout.places)
    if kind == "entry":
        return len(ledger.entries)
    if kind == "way":
        return len(ledger.ways())
    return most_sold(ledger.ways())


def is_there(ledger, kind, number):
    return 0 <= number < how_many(ledger, kind)


def are_there(ledger, kinds, numbers):
    """Whether there is each of these, the free ones left aside."""
    return all([kind == "free" or is_there(ledger, kind, number) for kind, number in zip(kinds, numbers)])


def is_share(n, d):
    return 1 <= d <= GREATEST_D and 0 <= n <= d


def counted(ledger):
    layout = ledger.layout
    return [DONE, len(layout.lots), len(layout.places), len(ledger.entries), len(ledger.ways())]


def answer_print(ledger, numbers, row):
    return [DONE] + bytes_of(ledger.shown())


def answer_more(ledger, numbers, row):
    why = ledger.add_line(signs_of(row))
    if why != GOOD:
        return [WRONG, why]
    return counted(ledger)


def answer_settle(ledger, numbers, row):
    entry = numbers[0]
    choice = numbers[1]
    if not 0 <= choice < len(ledger.entries[entry]):
        return [OUT_OF_RANGE]
    if not ledger.settle(entry, choice):
        return [NO_WAY_LEFT]
    return counted(ledger)


def answer_undo(ledger, numbers, row):
    if ledger.entries == []:
        return [NONE_THERE]
    ledger.undo()
    return counted(ledger)


def answer_worlds(ledger, numbers, row):
    return counted(ledger)


def answer_place(ledger, numbers, row):
    return [DONE] + bounds(place_greens(ledger.ways(), numbers[0], numbers[1]))


def answer_kilos(ledger, numbers, row):
    return [DONE] + bounds(place_weights(ledger.ways(), numbers[0]))


def answer_sold(ledger, numbers, row):
    # The document tells at most ahead of at least here, and these are no fractions.
    return [DONE, most_sold(ledger.ways()), fewest_sold(ledger.ways())]


def answer_trace(ledger, numbers, row):
    return [DONE] + bounds(sold_greens(ledger.ways(), numbers[0], numbers[1]))


def answer_share(ledger, numbers, row):
    return [DONE] + bounds(sold_shares(ledger.ways(), numbers[0], numbers[1]))


def answer_surely(ledger, numbers, row):
    has_some = [green != ZERO for green in sold_greens(ledger.ways(), numbers[0], numbers[1])]
    if all(has_some):
        return [DONE, WHATEVER_WAS]
    return [DONE, BY_SOME_WAYS if any(has_some) else BY_NO_WAY]


def answer_recall(ledger, numbers, row):
    if not is_share(numbers[1], numbers[2]):
        return [OUT_OF_RANGE]
    many = most_sold(ledger.ways())
    if many > MOST_CALLED_BACK:
        return [TOO_MANY_SOLD]
    return [DONE] + fewest_enough(demands_of(ledger.ways(), numbers[0], numbers[1], numbers[2]), many)


def answer_ask(ledger, numbers, row):
    greens = sold_greens(ledger.ways(), numbers[0], numbers[1])
    best = best_entry(ledger.entries, ledger.ways(), greens)
    if best is None:
        return [DONE, NO_ENTRY]
    return [DONE, best[0]] + list(best[1])


def answer_mass(ledger, numbers, row):
    return [DONE] + bounds(masses(ledger.ways(), numbers[0]))


def answer_way(ledger, numbers, row):
    return [DONE] + ledger.ways()[numbers[0]].choices


def answer_inside(ledger, numbers, row):
    answer = [DONE]
    for part in ledger.ways()[numbers[0]].places[numbers[1]]:
        for amount in [part.kilos] + part.greens:
            answer.extend(list(amount))
    return answer


def answer_find(ledger, numbers, row):
    name = signs_of(row)
    if name in ledger.layout.lots:
        return [DONE, A_LOT, ledger.layout.lots.index(name)]
    if name in ledger.layout.places:
        return [DONE, A_PLACE, ledger.layout.places.index(name)]
    return [NONE_THERE]


def answer_unsettled(ledger, numbers, row):
    answer = [DONE]
    for entry, deeds in enumerate(ledger.entries):
        if len(deeds) > 1:
            answer.extend([entry, len(deeds)])
    return answer


def answer_enough(ledger, numbers, row):
    all_sold = all([is_there(ledger, "sold", number) for number in row])
    if not all_sold or not is_share(numbers[1], numbers[2]):
        return [OUT_OF_RANGE]
    demands = demands_of(ledger.ways(), numbers[0], numbers[1], numbers[2])
    # A number told twice brings back what it has once only.
    return [DONE, 1 if is_enough(demands, sorted(set(row))) else 0]


def answer_sold_kilos(ledger, numbers, row):
    return [DONE] + bounds(sold_weights(ledger.ways(), numbers[0]))


def answer_where(ledger, numbers, row):
    answer = [DONE]
    for place in range(len(ledger.layout.places)):
        greens = place_greens(ledger.ways(), place, numbers[0])
        if any([green != ZERO for green in greens]):
            answer.append(place)
            answer.extend(bounds(greens))
    return answer


ANSWERERS = {
    1: answer_print,
    2: answer_more,
    3: answer_settle,
    4: answer_undo,
    5: answer_worlds,
    6: answer_place,
    7: answer_kilos,
    8: answer_sold,
    9: answer_trace,
    10: answer_share,
    11: answer_surely,
    12: answer_recall,
    13: answer_ask,
    14: answer_mass,
    15: answer_way,
    16: answer_inside,
    17: answer_find,
    18: answer_unsettled,
    19: answer_enough,
    20: answer_sold_kilos,
    21: answer_where,
}


class Session:
    """The one object that the calls of a list are made on."""

    def __init__(self):
        self.ledger = None

    def read_store(self, text):
        reading = read_text(text)
        if reading[0] is None:
            return [WRONG] + reading[1]
        self.ledger = reading[0]
        return counted(self.ledger)

    def answer(self, call, numbers, row):
        if call == STORE:
            return self.read_store(row)
        if self.ledger is None:
            return [NO_STORE]
        if not are_there(self.ledger, ASKED[call], numbers):
            return [OUT_OF_RANGE]
        return ANSWERERS[call](self.ledger, numbers, row)


def answers(calls):
    session = Session()
    given = []
    at = 0
    while at < len(calls):
        call = calls[at]
        behind = at + 1 + len(ASKED[call])
        numbers = calls[at + 1:behind]
        row = []
        if call in ROWS:
            row = calls[behind + 1:behind + 1 + calls[behind]]
            behind += 1 + len(row)
        answer = session.answer(call, numbers, row)
        given.append(len(answer))
        given.extend(answer)
        at = behind
    return given
